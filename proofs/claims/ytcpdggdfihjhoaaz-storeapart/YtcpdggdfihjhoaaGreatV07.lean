import Derived.Test.YtcpdggdfihjhoaaGreatV01
import Derived.Test.YtcpdggdfihjhoaaGreatV04
import Derived.Test.YtcpdggdfihjhoaaGreatV06
import Derived.Deep.OwnRows
import Derived.ProofKit
import Derived.OpenShut
import Derived.ShutString
import Derived.ChangeOld
import Derived.SizedLaws
import Derived.Deep.Slices
set_option maxRecDepth 20000
set_option maxHeartbeats 8000000
set_option linter.all false
namespace Go.Proofs.YtcpdggdfihjhoaaGreat
open Go.Proofs.Tryz
open Go.RowKit Go.Maps
variable {y:Array Value} {S:DS} {ag:Int} {L:LG} {ps:List (Nat×List Int)} {d im l:List Int} {ls:List LG} {vs xs:List Value} {M N a c dc dn fuel hm i j k kl n p p' pn q q' r' s s' u x:Nat} {A F Z:Nat->Prop} {da pa:Option Addr} {G G':SG} {T:TG} {α:Type} {e f:TypeId} {nv tv v:Value} {W w w':World}
def Pk (h:B.ax w F p s S c) (dO:S.fN) (aU:S.puts.length+6000<=4000000000000) (hf:S.fuse≠0) (qO:mQ (S.now 0) s):
  Calls prog 18 #[pQ p] w λe w'=>Tr w F p s c S e w':=by
 obtain⟨w1,bT⟩:=bP ((w.alloc (.cells #[.pointer none] 53)).alloc (.cells #[.int .i64 0] 49));have bN:bW w w1:=by rw [bT];exact co w _ _
 have sy:w1.heap.size=w.heap.size+2:=by rw [bT];simp
 have pB:w1.heap[w.heap.size]? =some (.cells #[.pointer none] 53 (0,0)):=by rw [bT];exact heap_alloc2_old _ _ _
 have gh:w1.heap[w.heap.size+1]? =some (.cells #[.int .i64 0] 49 (0,0)):=by rw [bT];exact heap_alloc2_new _ _ _
 have bq:=h.lt;have hly:=uI (h.later bN) dO (by omega);have uQ:=kz qO;clear h
 go_enter_defers func18,ntmps18
 go_wp2_with fail;rw [<-bT];clear bT;refine hly.mono ?_;rintro e w2 ⟨y,x,rfl,oo,cI,aY⟩;have em:=aY.size;have rL:x=0/\y=cE (S.now 0):=by
  rcases oo with ⟨h1,_⟩|⟨_,_,h2,h3⟩|⟨_,h1,_⟩
  .exact absurd h1 hf
  .exact⟨h3,h2⟩
  .exact absurd qO h1
 obtain⟨rfl,Yn⟩:=rL;rw [<-Yn] at uQ;have H:=yh Yn;have Xe:=(aY.block w.heap.size (by omega) (λd=>by have:=bq _ d;omega)).trans pB;have Ir:=(aY.block (w.heap.size+1) (by omega) (λd=>by have:=bq _ d;omega)).trans gh;have HK:Yh (B.ax w2 F p s S (c+1)/\aa F w w2):=⟨cI,(aa.ah F bN).trans aY (λ_ h=> .inl h)⟩;have d0:=aM Ir;have e0:=ae Ir 0;have fK:w.heap.size+1<w2.heap.size:=by omega
 obtain⟨q,J,P,M,o5,o6⟩:=aeY bq fK Xe Ir HK.o.1 HK.o.2 0 (.cells #[.int .i64 (y.log:Int), .int .i64 (y.home:Int), .int .i64 (y.blocks:Int), .int .i64 (y.nodes:Int), .int .i64 (y.data:Int)] 86);clear hly oo cI aY Yn
 dsimp only [P6]
 go_upto_region 3 with fail
 generalize (w2.setCell ⟨w.heap.size+1,0,none⟩ (.int .i64 0)).alloc (.cells #[.int .i64 (y.log:Int), .int .i64 (y.home:Int), .int .i64 (y.blocks:Int), .int .i64 (y.nodes:Int), .int .i64 (y.data:Int)] 86)=w3 at*;have HW:=yh (aH q (aH J (aH P (aH M o5))));have I:=aj J (j:=0) (u:=iV 0) rfl;have l0:=aM P;have mn:=B.Tq M dO 1 (y.log:Int) (by omega);clear q J P M o5 d0 e0 Xe Ir HK pB gh bN;go_wp2_with fail;refine mn.mono ?_;rintro e w4 ⟨uR,K,dW⟩;clear mn I l0;have vt:=dW.size;have ar:=(dW.block w.heap.size (by omega) (λd=>by have:=bq _ d;omega)).trans HW.o.1;have bd:=(dW.block (w.heap.size+1) (by omega) (λd=>by have:=bq _ d;omega)).trans HW.o.2.1;have bz:=(dW.block w2.heap.size (by omega) (λd=>by have:=bq _ d;omega)).trans HW.o.2.2.1;have E4:=HW.o.2.2.2.2.trans dW (λ_ h=> .inl h);have vK:=aaY S s y.log;unfold Kr at uR;by_cases Z:(bC S s 1 (y.log:Int)).1=0
 .rw [aB (λh=>h Z)] at uR;obtain⟨l,v,rs,hd,rfl,j8,TS⟩:=uR;obtain⟨q,J,P,M⟩:=aeZ 0 (λk d=> .inl (bq k d)) ar bd K;have I:=aj bd (j:=0) (u:=iV 0) rfl;have Y:=ae bd 0;have ars:=TS.p.lt;have Pm:=(M.block w2.heap.size (by omega) (by omega)).trans bz;have HT:=yh TS;have Ye:=yh Z;clear dW ar bd bz K HW TS Z
  go_upto_region 6 with fail
  generalize Jo:w4.setCell ⟨w.heap.size+1,0,none⟩ (.int .i64 0)=w5 at*;have pT:w5.heap.size=w4.heap.size:=by rw [<-Jo,size_setCell]
  clear I Y Jo;obtain⟨c1,f1,I,l0,l1,l2,l3,l4⟩:=xA (aM q) (ae q 0) (aj J (j:=0) (u:=iV 0) rfl) (aM Pm) (bG Pm) (bM Pm) (fU Pm) (gH Pm);have art:w.heap.size<w5.heap.size:=by omega
  have HX:=yh (aH q (aH J (aH P M)));have HZ5:=yh pT;have hbN:=co w5 (.map #[] 0) (.cells (PP p l w5.heap.size y false) 95);have c1N:=aj ((hbN.block _ (aq q)).trans q) (j:=0) (u:= .pointer none) rfl;have f1N:=ae ((hbN.block _ (aq q)).trans q) 0;clear q J P Pm pT hbN;have Cp:= @run_makeMap prog
  go_upto_region 9 with fail
  obtain⟨D,MX⟩:=bP (((w5.setCell ⟨w.heap.size,0,none⟩ (.pointer (some ⟨w5.heap.size+1,0,none⟩))).alloc (.map #[] 0)).alloc (.cells (PP p l w5.heap.size y false) 95));rw [<-MX];obtain⟨r1,r2,r3,r4,r5,r6,r7⟩:=ae0 (l:=l) (y:=y) bq HX.o.1 HX.o.2.1 HX.o.2.2.1 MX;have Ic:=(HT.o.aw HX.o.2.2.2 (λk e=>by omega) (by omega)).aw r6 (λk e=>by omega) (by omega);have FI:jT S 1 y.log rs hd:=⟨Ic.t,Ic.x⟩;obtain⟨Xh,E6,IA,IB⟩:=mg (f:=1) Ye.o;obtain⟨iu,lJ,pY,Bz⟩:=FI.small dO (by omega);have YD:(bC S s 1 (y.log:Int)).2.puts= []:=by
   have:=Ye.o;rw [show bC S s 1 (y.log:Int)=S.take.fl s from IB] at this⊢;exact jn this
  have abe:(bC S s 1 (y.log:Int)).2.fN:=by
   rw [show bC S s 1 (y.log:Int)=S.take.fl s from IB];exact dO.take.fl s
  obtain⟨S1,abf⟩:∃S1,S1=(bC S s 1 (y.log:Int)).2:=⟨_,rfl⟩;rw [<-abf] at r5 YD abe;have ZQ:¬F (w5.heap.size+1):=λd=>by have:=bq _ d;omega
  have hkm:¬F w5.heap.size:=λd=>by have:=bq _ d;omega
  have hre:=Tl r5 r3 r4 ZQ hkm uQ.1 Ic.r.ae1 lJ (by omega) (by rw [YD];simp);have a:=yh (aH r1 (aH r2 (aH r3 (aH r5 (aH Ic (aH FI (aH YD (aH abe (aH abf (aH lJ (aH r6 (aH E6 IA))))))))))));have cq1:=aM r1;clear r1 r2 r3 r4 r5 Ic FI YD abe abf iu lJ pY Bz Xh E6 IA IB MX HT HX c1 I f1 c1N f1N l0 l1 l2 l3 l4 Cp;have RQ:=r7;clear r7 r6;go_wp2_with fail;refine hre.mono ?_;rintro e i Io;clear hre cq1;have AS:=(E4.trans M (λk e=> .inr (by omega))).trans a.o.2.2.2.2.2.2.2.2.2.2.1 (λk e=> .inr (by omega));have pT:=HZ5.o;clear E4 M;rcases Io with ⟨hn,rfl,nS,gS⟩|⟨ov,vf,rfl,nS,gS,Xr⟩
  .have hz7:=gS.size;have m:=(gS.block w.heap.size (by omega) (by omega)).trans a.o.1;have n:=(gS.block (w.heap.size+1) (by omega) (by omega)).trans a.o.2.1;obtain⟨A,C,p3,g⟩:=oset (w:=w) (v:= .pointer none) (x:=6) (λk d=> .inl (bq k d)) m n nS;have HG:=yh (aH m n);have O:Yh (j5 S s 6 S1):=by
    unfold j5;rw [<-H.o];exact .inr ⟨qO,hf, .inr ⟨Ye.o,rs,hd,a.o.2.2.2.2.2.1, .inl ⟨hn,rfl,a.o.2.2.2.2.2.2.2.2.1⟩⟩⟩
   have b:=yh (aH A (aH C (aH p3 ((AS.trans gS (λk e=> .inr (by omega))).trans g (λk e=> .inr (by omega)):aa F w _))));clear A C p3 g nS gS m n hn AS;go_wp2;refine leaves_cons (f:=53) (args:= #[pQ w.heap.size, .pointer (some ⟨w.heap.size+1,0,none⟩)]) (by simp) (by simp [go_sem]) ?_;refine(EX w.heap.size (w.heap.size+1) _ _ _ HG.o.1 HG.o.2 (by omega)).mono ?_;rintro e u' BI ⟨rfl,rfl,afq⟩;rw [<-afq] at b;have Q:=aj b.o.1 (j:=0) (u:= .pointer none) rfl;have U:=aj b.o.2.1 (j:=0) (u:=iV 6) rfl;clear afq;simp [Leaves,settle,results,results18,go_sem,Q,U];exact⟨6,S1,_,by have:=H.o;rw [<-this];omega,O.o,b.o.2.2.2, .inl ⟨by decide,rfl,b.o.2.2.1.more⟩⟩
  .obtain⟨R,E⟩:=bP (ev S1 s y ov rs);rw [<-E] at nS Xr;rw [<-E];have hz7:=gS.size;have m:=(gS.block w.heap.size (by omega) (λe=>by rcases e with e|e;omega;have:=bq _ e;omega)).trans a.o.1;have n:=(gS.block (w.heap.size+1) (by omega) (λe=>by rcases e with e|e;omega;have:=bq _ e;omega)).trans a.o.2.1;have c1:=aM m;have f1:=ae m 0;have I:=aj n (j:=0) (u:=iV 0) rfl;have Y:=ae n 0;have Xs:∀k,more F D i k->k<w.heap.size\/w.heap.size+2<=k:=λk h=>by
    rcases h with h|h
    .exact .inl (bq k h)
    .exact .inr (by omega)
   have Cg:=AS.trans gS (λk e=>by rcases e with e|e;exact .inr (by omega);exact .inl e);by_cases N:R.1=0
   .have dz:(R.1 == 0)=true:=(by rw [N];rfl);have dz2:(R.1 != 0)=false:=(by simp [N]);obtain⟨L,hL⟩:=bP (fj S 1 y.log hd);have afr:cY D l p L:=(by rw [hL];exact a.o.2.2.2.2.1.p);have xV:L.Ok s:=(by rw [hL];exact yB a.o.2.2.2.2.2.1 dO a.o.2.2.2.2.2.2.2.2.2.2.2.1 a.o.2.2.2.2.2.2.2.2.2.2.2.2 uQ.2.1 uQ.2.2.1 uQ.2.2.2.1);have ym:l≠w5.heap.size:=(by omega);have hlF:¬F l:=λe=>by have:=bq _ e;omega
    have ako:¬more F D i l:=λe=>by
     rcases e with e|e
     .exact hlF e
     .omega
    have afs:=afr.aw gS (λe=>by rcases e with e|e;exact ym e;exact hlF e);have xS:=a.o.2.2.1.aw gS (λe=>by rcases e with e|e;omega;exact ZQ e);have hRb:R.2.fN:=(by rw [E];exact Dt a.o.2.2.2.2.2.2.2.1 (qM vf (λx hx=>by cases hx) (λr hr=>(a.o.2.2.2.2.2.2.2.2.2.1 r hr).1)));have hRp:R.2.puts.length<=0:=by
     have h1:=Lo (S:=S1) (s:=s) (y:=y) (ov:=ov) (rs:=rs) (by rw [<-E];exact N);rw [<-E,a.o.2.2.2.2.2.2.1] at h1;exact h1
    have abg:=B.O5 nS afs xV ako hRb (by omega);obtain⟨T,hT⟩:=bP (L.start R.2 s);rw [<-hT] at abg;have O:Yh (j5 S s T.1 T.2.1):=by
     unfold j5;rw [<-H.o];exact .inr ⟨qO,hf, .inr ⟨Ye.o,rs,hd,a.o.2.2.2.2.2.1, .inr ⟨ov,vf, .inr ⟨by rw [<-a.o.2.2.2.2.2.2.2.2.1,<-E];exact N,by rw [<-a.o.2.2.2.2.2.2.2.2.1,<-E,<-hL,<-hT],by rw [<-a.o.2.2.2.2.2.2.2.2.1,<-E,<-hL,<-hT]⟩⟩⟩⟩
    have HSL:Yh (tA S s T.2.2):=by
     unfold tA;rw [<-H.o];exact⟨rs,hd,ov,a.o.2.2.2.2.2.1,vf,by rw [<-a.o.2.2.2.2.2.2.2.2.1,<-E,<-hL,<-hT]⟩
    have sk:T.1=0->T.2.2.Ok s/\T.2.2.begun=true:=(by rw [hT];exact tz xV);have X:=yh (aH m (aH n (aH xS (aH (Xr N) (aH Cg sk)))));clear nS gS m n AS Cg E Xr N hL afr xV afs xS hRb hRp hT sk vf c1 I f1 Y pT;generalize R.1=z at*;go_wp2_with fail;refine pz abg λG oV abh j0=>?_;clear abg;have pT:=HZ5.o;have hz8:=j0.size;have m:=(j0.block w.heap.size (by omega) (λe=>by rcases e with e|e;rcases Xs _ e with e|e <;> omega;omega)).trans X.o.1;have n:=(j0.block (w.heap.size+1) (by omega) (λe=>by rcases e with e|e;rcases Xs _ e with e|e <;> omega;omega)).trans X.o.2.1;have c1:=aj m (j:=0) (u:= .pointer (some ⟨w5.heap.size+1,0,none⟩)) rfl;have f1:=ae m 0;have I:=aj n (j:=0) (u:=iV 0) rfl;have Y:=ae n 0;have YI:∀k,more (more F D i) i G k->k<w.heap.size\/w.heap.size+2<=k:=λk h=>by
     rcases h with h|h
     .exact Xs k h
     .exact .inr (by omega)
    have Xt:=X.o.2.2.2.2.1.trans j0 (λk e=>by
     rcases e with (e|e)|e
     .exact .inl e
     .exact .inr (by omega)
     .exact .inr (by omega))
    have Wt:∀(w9:World),G.heap.size<=w9.heap.size->∀k,more (more F D i) i G k->more F w w9 k:=λw9 hz k h=>by
     rcases h with (h|h)|h
     .exact .inl h
     .exact .inr (by omega)
     .exact .inr (by omega)
    by_cases W:T.1=0
    .have dt:(T.1 == 0)=true:=(by rw [W];rfl);have dt2:(T.1 != 0)=false:=(by simp [W]);obtain⟨A,C,p3,g⟩:=oset (w:=w) (v:= .pointer (some ⟨w5.heap.size+1,0,none⟩)) (x:=0) YI m n oV;have hq8:¬more (more F D i) i G (w5.heap.size+1):=λe=>by
      rcases e with (e|e)|e
      .exact ZQ e
      .omega
      .omega
     have XO:¬more (more F D i) i G w5.heap.size:=λe=>by
      rcases e with (e|e)|e
      .exact hkm e
      .omega
      .omega
     have Dl:¬more (more F D i) i G l:=λe=>by
      rcases e with (e|e)|e
      .exact hlF e
      .omega
      .omega
     have WM:=(X.o.2.2.1.aw j0 (λe=>by rcases e with e|e;exact hq8 (.inl e);omega)).aw g (by omega);have aft:=(X.o.2.2.2.1.aw j0 (λe=>by rcases e with e|e;exact XO (.inl e);omega)).aw g (by omega);have afu:=abh.aw g (by omega);have Gh:=X.o.2.2.2.2.2 W;have hSt:iw ((G.setCell ⟨w.heap.size,0,none⟩ (.pointer (some ⟨w5.heap.size+1,0,none⟩))).setCell ⟨w.heap.size+1,0,none⟩ (.int .i64 0)) (more (more F D i) i G) p s (c+1+B.oRd S s 1 (y.log:Int)+2) (w5.heap.size+1) l w5.heap.size T.2.1 ⟨y,T.2.2, [],false⟩:=
        ⟨p3,WM,afu,aft,hq8,Dl,XO,by omega,by omega,ym,Gh.1,Gh.2,uQ.1,(λx hx=>by cases hx)⟩
     obtain⟨b,HT0⟩:=bV (aH A (aH C (aH hSt (aH (Xt.trans g (λk e=> .inr (by omega)):aa F w _) (Wt _ g.size))))) W;have TT:=yh (aH (by omega:w.heap.size<=w5.heap.size+1) (aH (by omega:w.heap.size<=l) (by omega:w.heap.size<=w5.heap.size)));clear A C p3 g oV abh j0 m n Xt Wt WM aft afu Gh hSt X W pT;go_wp2;generalize (G.setCell ⟨w.heap.size,0,none⟩ (.pointer (some ⟨w5.heap.size+1,0,none⟩))).setCell ⟨w.heap.size+1,0,none⟩ (.int .i64 0)=w9 at*;have Q:=aj b.o.1 (j:=0) (u:= .pointer (some ⟨w5.heap.size+1,0,none⟩)) rfl;have U:=aj b.o.2.1 (j:=0) (u:=iV 0) rfl;refine leaves_cons (f:=53) (args:= #[pQ w.heap.size, .pointer (some ⟨w.heap.size+1,0,none⟩)]) (by simp) (by simp [go_sem]) ?_;refine(kX _ _ _).mono ?_;rintro e u' BI ⟨rfl,rfl,rfl⟩;simp [Leaves,settle,results,results18,go_sem,Q,U];have bj:=b.o.2.2.1;rw [H.o] at bj;have ho:=O.o;rw [HT0.o] at ho;exact⟨0,T.2.1,_,by have:=H.o;rw [<-this];omega,ho,b.o.2.2.2.1, .inr ⟨rfl,w5.heap.size+1,l,w5.heap.size,T.2.2,_,HSL.o,rfl,b.o.2.2.2.2,TT.o.1,TT.o.2.1,TT.o.2.2,bj⟩⟩
    .have dt:(T.1 == 0)=false:=(by simpa using W);have dt2:(T.1 != 0)=true:=(by simp [W]);obtain⟨A,C,p3,g⟩:=oset (w:=w) (v:= .pointer none) (x:=T.1) YI m n oV;have afv:∀k,more F w ((G.setCell ⟨w.heap.size,0,none⟩ (.pointer none)).setCell ⟨w.heap.size+1,0,none⟩ (.int .i64 T.1)) k->k<((G.setCell ⟨w.heap.size,0,none⟩ (.pointer none)).setCell ⟨w.heap.size+1,0,none⟩ (.int .i64 T.1)).heap.size:=λk h=>by
      have Sb:=g.size;rcases h with h|h
      .have:=bq k h;omega
      .omega
     obtain⟨b,HT0⟩:=bV (aH A (aH C (aH (p3.mono (Wt _ g.size) afv) (Xt.trans g (λk e=> .inr (by omega)):aa F w _)))) W;clear A C p3 g oV abh j0 m n Xt Wt afv X W;generalize T.1=t at*;go_wp2;generalize (G.setCell ⟨w.heap.size,0,none⟩ (.pointer none)).setCell ⟨w.heap.size+1,0,none⟩ (.int .i64 t)=w9 at*;have Q:=aj b.o.1 (j:=0) (u:= .pointer none) rfl;have U:=aj b.o.2.1 (j:=0) (u:=iV t) rfl;refine leaves_cons (f:=53) (args:= #[pQ w.heap.size, .pointer (some ⟨w.heap.size+1,0,none⟩)]) (by simp) (by simp [go_sem]) ?_;refine(kX _ _ _).mono ?_;rintro e u' BI ⟨rfl,rfl,rfl⟩;simp [Leaves,settle,results,results18,go_sem,Q,U];exact⟨t,T.2.1,_,by have:=H.o;rw [<-this];omega,O.o,b.o.2.2.2, .inl ⟨HT0.o,rfl,b.o.2.2.1⟩⟩
   .have dz:(R.1 == 0)=false:=(by simpa using N);have dz2:(R.1 != 0)=true:=(by simp [N]);obtain⟨A,C,p3,g⟩:=oset (w:=w) (v:= .pointer none) (x:=R.1) Xs m n nS;have O:Yh (j5 S s R.1 R.2):=by
     unfold j5;rw [<-H.o];exact .inr ⟨qO,hf, .inr ⟨Ye.o,rs,hd,a.o.2.2.2.2.2.1, .inr ⟨ov,vf, .inl ⟨by rw [E,a.o.2.2.2.2.2.2.2.2.1],N,by rw [E,a.o.2.2.2.2.2.2.2.2.1]⟩⟩⟩⟩
    have Cu:B.ax ((i.setCell ⟨w.heap.size,0,none⟩ (.pointer none)).setCell ⟨w.heap.size+1,0,none⟩ (.int .i64 R.1)) (more F w ((i.setCell ⟨w.heap.size,0,none⟩ (.pointer none)).setCell ⟨w.heap.size+1,0,none⟩ (.int .i64 R.1))) p s R.2 (c+1+B.oRd S s 1 (y.log:Int)):=by
     have Sb:=g.size;refine p3.mono (λk h=>?_) (λk h=>?_)
     .rcases h with h|h
      .exact .inl h
      .exact .inr (by omega)
     .rcases h with h|h
      .have:=bq k h;omega
      .omega
    obtain⟨b,ON⟩:=bV (aH A (aH C (aH Cu (Cg.trans g (λk e=> .inr (by omega)):aa F w _)))) N;clear A C p3 g nS gS m n AS Cg Cu E Xr N;generalize R.1=z at*;go_wp2;generalize (i.setCell ⟨w.heap.size,0,none⟩ (.pointer none)).setCell ⟨w.heap.size+1,0,none⟩ (.int .i64 z)=G at*;have Q:=aj b.o.1 (j:=0) (u:= .pointer none) rfl;have U:=aj b.o.2.1 (j:=0) (u:=iV z) rfl;refine leaves_cons (f:=53) (args:= #[pQ w.heap.size, .pointer (some ⟨w.heap.size+1,0,none⟩)]) (by simp) (by simp [go_sem]) ?_;refine(kX _ _ _).mono ?_;rintro e u' BI ⟨rfl,rfl,rfl⟩;simp [Leaves,settle,results,results18,go_sem,Q,U];exact⟨z,R.2,_,by have:=H.o;rw [<-this];omega,O.o,b.o.2.2.2, .inl ⟨ON.o,rfl,b.o.2.2.1⟩⟩
 .rw [aG Z] at uR;subst uR;have O:Yh (j5 S s (bC S s 1 (y.log:Int)).1 (bC S s 1 (y.log:Int)).2):= .inr ⟨qO,hf, .inl ⟨by rw [<-H.o],Z,by rw [<-H.o]⟩⟩;obtain⟨S',hS'⟩:∃S',S'=(bC S s 1 (y.log:Int)).2:=⟨_,rfl⟩;rw [<-hS'] at O K;obtain⟨x,hx⟩:∃x,x=(bC S s 1 (y.log:Int)).1:=⟨_,rfl⟩;rw [<-hx] at O Z;rw [<-hx];have dx2:(x != 0)=true:=by simp [Z]
  obtain⟨q,J,P,M⟩:=aeZ x (λk d=> .inl (bq k d)) ar bd K;have I:=aj bd (j:=0) (u:=iV 0) rfl;have Y:=ae bd 0;clear hx hS' dW ar bd bz K HW
  go_upto_region 6 with fail
  generalize w4.setCell ⟨w.heap.size+1,0,none⟩ (.int .i64 x)=w5 at*;clear I Y;have c1:=aM q;have f1:=ae q 0;have I:=aj J (j:=0) (u:=iV x) rfl;have Y:=ae J 0;obtain⟨A,C,p3,g⟩:=oset (w:=w) (v:= .pointer none) (x:=x) (λk d=> .inl (bq k d)) q J P;clear q J P
  go_upto_region 7 with fail
  go_region
  have pr:=E4.trans M (λk e=> .inr (by omega));generalize (w5.setCell ⟨w.heap.size,0,none⟩ (.pointer none)).setCell ⟨w.heap.size+1,0,none⟩ (.int .i64 x)=D at*;have U2:bW D D.drew:=ai (bi _ _);have HF:Yh (B.ax D.drew F p s S' (c+1+B.oRd S s 1 (y.log:Int))/\aa F w D.drew):=⟨p3.later U2,(pr.trans g (λk e=> .inr (by omega))).trans (aa.ah (λ_=>False) U2) (λ_ h=>h.elim)⟩;have Q:=aj ((U2.block _ (aq A)).trans A) (j:=0) (u:= .pointer none) rfl;have U:=aj ((U2.block _ (aq C)).trans C) (j:=0) (u:=iV x) rfl;clear A C p3 g U2 c1 I f1 Y M pr E4;generalize D.drew=i at*;go_wp2;refine leaves_cons (f:=53) (args:= #[pQ w.heap.size, .pointer (some ⟨w.heap.size+1,0,none⟩)]) (by simp) (by simp [go_sem]) ?_;refine(kX _ _ _).mono ?_;rintro e u' BI ⟨rfl,rfl,rfl⟩;simp [Leaves,settle,results,results18,go_sem,Q,U];exact⟨x,S',_,by have:=H.o;rw [<-this];omega,O.o,HF.o.2, .inl ⟨Z,rfl,HF.o.1.more⟩⟩
section
structure PI where
 q:Nat
 l:Nat
 m:Nat
 G:SG
structure PT where
 i:Nat
 t:Nat
 n:Nat
 T:TG
structure PW (w:World) (F P:Nat->Prop) (p s:Nat) (S:DS) (c:Nat) (ss:List PI) (ts:List PT):Prop where
 d:B.ax w F p s S c
 fO:∀g,P g->¬F g
 lt:∀g,P g->g<w.heap.size
 st:∀I∈ss,nx w I.q p I.l I.m I.G.y I.G.busy/\cY w I.l p I.G.L/\Ch w I.m I.G.ov/\(P I.q/\P I.l/\P I.m)/\I.G.L.Ok s/\I.G.L.begun=true/\I.G.y.home+I.G.y.blocks<=s/\∀x∈I.G.ov,x.1<I.G.y.blocks
 tx:∀J∈ts,∃I,ss[J.i]? =some I/\w.heap[J.t]? =some (.cells (B4 I.q J.n J.T) 98 (0,0))/\Ch w J.n J.T.puts/\(P J.t/\P J.n)/\∀x∈J.T.puts,x.1<I.G.y.blocks
 nq:(ss.map (·.q)).Nodup
 nl:(ss.map (·.l)).Nodup
 nm:(ss.map (·.m) ++ ts.map (·.n)).Nodup
 nt:(ts.map (·.t)).Nodup
def db {w:World} {b:Nat} {x:Array Value} {u v:Nat×Nat} (c:w.heap[a]? =some (.cells x e u)) (d:w.heap[b]? =some (.cells y f v)) (dM:e≠f):a≠b:=λh=>by
 rw [h,d] at c;simp at c;exact dM c.2.1.symm
def lA {w:World} {m b:Nat} {ms:CM} {v:Nat×Nat} (a:Ch w m ms) (c:w.heap[b]? =some (.cells y f v)):m≠b:=λh=>a.qK (by rw [h];exact c)
def i4 {f:α->Nat} {l:List α} (h:(l.map f).Nodup) {i j:Nat} {a b:α} (n:l[i]? =some a) (o:l[j]? =some b) (dM:i≠j):f a≠f b:=λe=>by
 obtain⟨k,d⟩:=mS.1 n;obtain⟨m,g⟩:=mS.1 o;rw [List.nodup_iff_pairwise_ne,List.pairwise_iff_getElem] at h;rcases Nat.lt_or_gt_of_ne dM with c|c
 .have:=h i j (by simpa using k) (by simpa using m) c;simp only [List.getElem_map,d,g] at this;exact this e
 .have:=h j i (by simpa using m) (by simpa using k) c;simp only [List.getElem_map,d,g] at this;exact this e.symm
section
variable {w w':World} {F F' P:Nat->Prop} {p s c c' i j:Nat} {S S':DS} {ss:List PI} {ts:List PT} {I:PI} {J:PT} {G':SG} {T':TG}
def PW.Fc (h:PW w F P p s S c ss ts) (o:ss[i]? =some I):iw w F p s c I.q I.l I.m S I.G:=by
 obtain⟨a,b,f,⟨r,t,p3⟩,g,j,k,n⟩:=h.st I (gB o);exact⟨h.d,a,b,f,h.fO _ r,h.fO _ t,h.fO _ p3,db a b (by decide),λe=>lA f a e.symm,λe=>lA f b e.symm,g,j,k,n⟩
def PW.LA (h:PW w F P p s S c ss ts) (o:ts[j]? =some J) (d:ss[J.i]? =some I):mL w F I.q I.l I.m J.t J.n I.G J.T:=by
 obtain⟨I',nF,a,b,⟨v,x⟩,u⟩:=h.tx J (gB o);obtain rfl:I'=I:=Option.some.inj (nF.symm.trans d);obtain⟨g,k,r,_⟩:=h.st I' (gB d);have f:J.n≠I'.m:=λe=>by
  have:=(List.nodup_append.1 h.nm).2.2 I'.m (List.mem_map_of_mem (gB d)) J.n (List.mem_map_of_mem (gB o));exact this e.symm
 exact⟨a,b,h.fO _ v,h.fO _ x,db a g (by decide),db a k (by decide),λe=>lA r a e.symm,λe=>lA b a e.symm,lA b g,lA b k,f,u⟩
def PW.at (h:PW w F P p s S c ss ts) (b:ts[j]? =some J):∃I,ss[J.i]? =some I:=by
 obtain⟨I,a,_⟩:=h.tx J (gB b);exact⟨I,a⟩
def PW.aw (h:PW w F P p s S c ss ts) (a:aa Z w w') (m:∀g,F g->¬Z g) (b:∀g,P g->¬Z g):PW w' F P p s S c ss ts:=by
 refine⟨h.d.aw a m,h.fO,λg q=>iL (h.lt g q) a.size,λI n=>?_,λJ o=>?_,h.nq,h.nl,h.nm,h.nt⟩
 .obtain⟨i,j,k,⟨e,f,p3⟩,l⟩:=h.st I n;exact⟨i.aw a (b _ e),j.aw a (b _ f),k.aw a (b _ p3),⟨e,f,p3⟩,l⟩
 .obtain⟨I,r,i,j,⟨e,f⟩,k⟩:=h.tx J o;exact⟨I,r,(a.block _ (aq i) (b _ e)).trans i,j.aw a (b _ f),⟨e,f⟩,k⟩
def PW.later (h:PW w F P p s S c ss ts) (a:bW w w'):PW w' F P p s S c ss ts:=h.aw (aa.ah (λ_=>False) a) (λ_ _ h=>h) (λ_ _ h=>h)
def PW.on (h:PW w F P p s S c ss ts) (o:ss[i]? =some I) (A:ts[j]? =some J) (P9:J.i=i) (Y:G'.y=I.G.y) (X:∀g,F' g->more F w w' g) (bj:iw w' F' p s c' I.q I.l I.m S' G') (nX:w'.heap[J.t]? =some (.cells (B4 I.q J.n T') 98 (0,0))) (ny:Ch w' J.n T'.puts) (po:∀x∈T'.puts,x.1<G'.y.blocks) (D:aa (λg=>F g\/g=I.q\/g=I.l\/g=I.m\/g=J.t\/g=J.n) w w'):
  PW w' F' P p s S' c' (ss.set i {I with G:=G'}) (ts.set j {J with T:=T'}):=by
 have Li:=(mS.1 o).1;have C:=(mS.1 A).1;obtain⟨Xu,Xv,u,⟨pq,Z,pm⟩,_⟩:=h.st I (gB o);obtain⟨I0,rS,r,v,⟨pt,pn⟩,_⟩:=h.tx J (gB A);have xH:=List.nodup_append.1 h.nm;have Cj:∀g,P g->¬F' g:=λg L a=>by
  rcases X g a with a|a
  .exact h.fO g L a
  .have:=h.lt g L;omega
 have aks:(ss.set i {I with G:=G'}).map (·.q)=ss.map (·.q):=by
  rw [List.map_set];apply List.ext_getElem?;intro n;by_cases e:n=i
  .subst e;rw [rR (by simpa using Li),BE,o];rfl
  .rw [su (λh=>e h.symm)]
 have akt:(ss.set i {I with G:=G'}).map (·.l)=ss.map (·.l):=by
  rw [List.map_set];apply List.ext_getElem?;intro n;by_cases e:n=i
  .subst e;rw [rR (by simpa using Li),BE,o];rfl
  .rw [su (λh=>e h.symm)]
 have aku:(ss.set i {I with G:=G'}).map (·.m)=ss.map (·.m):=by
  rw [List.map_set];apply List.ext_getElem?;intro n;by_cases e:n=i
  .subst e;rw [rR (by simpa using Li),BE,o];rfl
  .rw [su (λh=>e h.symm)]
 have akv:(ts.set j {J with T:=T'}).map (·.t)=ts.map (·.t):=by
  rw [List.map_set];apply List.ext_getElem?;intro n;by_cases e:n=j
  .subst e;rw [rR (by simpa using C),BE,A];rfl
  .rw [su (λh=>e h.symm)]
 have akw:(ts.set j {J with T:=T'}).map (·.n)=ts.map (·.n):=by
  rw [List.map_set];apply List.ext_getElem?;intro n;by_cases e:n=j
  .subst e;rw [rR (by simpa using C),BE,A];rfl
  .rw [su (λh=>e h.symm)]
 refine⟨bj.d,Cj,λg L=>iL (h.lt g L) D.size,λK O=>?_,λK O=>?_,by rw [aks];exact h.nq,by rw [akt];exact h.nl,by rw [aku,akw];exact h.nm,by rw [akv];exact h.nt⟩
 .obtain⟨n,b⟩:=List.mem_iff_getElem?.1 O;by_cases e:n=i
  .subst e;rw [rR Li] at b;cases b;exact⟨bj.st,bj.lp,bj.ch,⟨pq,Z,pm⟩,bj.lk,bj.bg,bj.hs,bj.kb⟩
  .rw [su (λh=>e h.symm)] at b;obtain⟨f,k,z,⟨E,H,p3⟩,W⟩:=h.st K (gB b);refine⟨f.aw D (λa=>?_),k.aw D (λa=>?_),z.aw D (λa=>?_),⟨E,H,p3⟩,W⟩
   .rcases a with a|a|a|a|a|a
    .exact h.fO _ E a
    .exact(i4 h.nq b o e) a
    .exact db f Xv (by decide) a
    .exact lA u f a.symm
    .exact db f r (by decide) a
    .exact lA v f a.symm
   .rcases a with a|a|a|a|a|a
    .exact h.fO _ H a
    .exact db k Xu (by decide) a
    .exact(i4 h.nl b o e) a
    .exact lA u k a.symm
    .exact db k r (by decide) a
    .exact lA v k a.symm
   .rcases a with a|a|a|a|a|a
    .exact h.fO _ p3 a
    .exact lA z Xu a
    .exact lA z Xv a
    .exact(i4 xH.1 b o e) a
    .exact lA z r a
    .exact(xH.2.2 K.m (List.mem_map_of_mem (gB b)) J.n (List.mem_map_of_mem (gB A))) a
 .obtain⟨n,b⟩:=List.mem_iff_getElem?.1 O;by_cases e:n=j
  .subst e;rw [rR C] at b;cases b;refine⟨{I with G:=G'},by rw [P9];exact rR Li,nX,ny,⟨pt,pn⟩,po⟩
  .rw [su (λh=>e h.symm)] at b;obtain⟨M,Q,f,k,⟨E,H⟩,z⟩:=h.tx K (gB b);have R:=(D.block _ (aq f) (λa=>by
    rcases a with a|a|a|a|a|a
    .exact h.fO _ E a
    .exact db f Xu (by decide) a
    .exact db f Xv (by decide) a
    .exact lA u f a.symm
    .exact(i4 h.nt b A e) a
    .exact lA v f a.symm)).trans f
   have U:=k.aw D (λa=>by
    rcases a with a|a|a|a|a|a
    .exact h.fO _ H a
    .exact lA k Xu a
    .exact lA k Xv a
    .exact(xH.2.2 I.m (List.mem_map_of_mem (gB o)) K.n (List.mem_map_of_mem (gB b))) a.symm
    .exact lA k r a
    .exact(i4 xH.2.1 b A e) a)
   by_cases N:K.i=i
   .rw [N,o] at Q;cases Q;exact⟨{I with G:=G'},by rw [N];exact rR Li,R,U,⟨E,H⟩,by rw [show ({I with G:=G'}:PI).G=G' from rfl,Y];exact z⟩
   .exact⟨M,by rw [su (λh=>N h.symm)];exact Q,R,U,⟨E,H⟩,z⟩
end
end
section
structure RI where
 k:Nat
 kl:Nat
 pv:Value
 ps:List (Nat×List Int)
 hm:Nat
 nv:Value
 G:SG
structure RJ where
 i:Nat
 u:Nat
 tv:Value
 us:List (Nat×List Int)
 T:TG
structure RW (w:World) (F X:Nat->Prop) (r s:Nat) (S:DS) (ss:List RI) (ts:List RJ):Prop where
 e:aC w F r s S
 fO:∀g,X g->¬F g
 lt:∀g,X g->g<w.heap.size
 st:∀I∈ss,iN w F X r s S I.k I.kl I.G I.pv I.ps I.hm I.nv
 tx:∀J∈ts,∃I,ss[J.i]? =some I/\ou w X I.k J.u I.G J.T J.tv J.us
 nk:(ss.map (·.k)).Nodup
 nl:(ss.map (·.kl)).Nodup
 nu:(ts.map (·.u)).Nodup
 r1:∀(i i':Nat) (I I':RI),ss[i]? =some I->ss[i']? =some I'->i≠i'->∀g,I.pv.ownBlock=some g->I'.pv.ownBlock≠some g
 r2:∀(j j':Nat) (J J':RJ),ts[j]? =some J->ts[j']? =some J'->j≠j'->∀g,J.tv.ownBlock=some g->J'.tv.ownBlock≠some g
 r3:∀I∈ss,∀J∈ts,∀g,I.pv.ownBlock=some g->J.tv.ownBlock≠some g
def nj {f:α->Nat} {l:List α} {i:Nat} {a b:α} (c:l[i]? =some a) (h:f b=f a):(l.set i b).map f=l.map f:=by
 rw [List.map_set];apply List.ext_getElem?;intro n;by_cases e:n=i
 .subst e;rw [rR (by simpa using ((mS.1 c).1)),BE,c,h];rfl
 .rw [su (λh=>e h.symm)]
def du {l:List α} {i:Nat} {a b x:α} (d:l[i]? =some a) (c:(l.set i b)[n]? =some x):(n=i/\x=b)\/(n≠i/\l[n]? =some x):=by
 by_cases e:n=i
 .subst e;rw [rR ((mS.1 d).1)] at c;exact .inl ⟨rfl,(Option.some.inj c).symm⟩
 .rw [su (λh=>e h.symm)] at c;exact .inr ⟨e,c⟩
section
variable {w w':World} {F F' X X':Nat->Prop} {r s i j:Nat} {S S':DS} {ss:List RI} {ts:List RJ} {I I':RI} {J J':RJ}
def RW.aw (h:RW w F X r s S ss ts) (a:aa Z w w') (d:∀g,F g->¬Z g) (b:∀g,X g->¬Z g):RW w' F X r s S ss ts:=by
 refine⟨h.e.aw a d,h.fO,λg j=>iL (h.lt g j) a.size,λI f=>(h.st I f).aw a b,λJ i=>?_,h.nk,h.nl,h.nu,h.r1,h.r2,h.r3⟩;obtain⟨I,k,c⟩:=h.tx J i;exact⟨I,k,c.aw a b⟩
def RW.later (h:RW w F X r s S ss ts) (a:bW w w'):RW w' F X r s S ss ts:=h.aw (aa.ah (λ_=>False) a) (λ_ _ h=>h) (λ_ _ h=>h)
def RW.jU (h:RW w F X r s S ss ts) (a:ss[i]? =some I):iN w F X r s S I.k I.kl I.G I.pv I.ps I.hm I.nv:=h.st I (gB a)
def RW.px (h:RW w F X r s S ss ts) (c:ts[j]? =some J) (b:ss[J.i]? =some I):ou w X I.k J.u I.G J.T J.tv J.us:=by
 obtain⟨I',nF,a⟩:=h.tx J (gB c);obtain rfl:I'=I:=Option.some.inj (nF.symm.trans b);exact a
def iN.other {e:Value} (h:iN w F X r s S k kl G e ps hm nv) (d:aa Z w w') (b:∀g,X g->X' g) (aaz:∀g,X' g->¬F' g) (bq:∀g,X' g->g<w'.heap.size) (f:¬Z k) (i:¬Z kl) (j:∀g,e.ownBlock=some g->¬Z g) (l:∀g c ys,X g->ay w 5 g c ys->¬Z g) (a:S'=S\/G.L.dead S'=true):iN w' F' X' r s S' k kl G e ps hm nv:=
   ⟨h.st.aw d f,h.lp.aw d i,(h.pl.aw d j l).mono b,b _ h.xk,b _ h.xl,aaz,bq,h.lk,h.bg,h.hs,h.lh,h.ov,h.hm,h.kb,λhd=>by
  rcases a with a|a
  .rw [a] at hd⊢;exact h.un hd
  .rw [a] at hd;cases hd⟩
def ou.other {us:List (Nat×List Int)} (h:ou w X k u G T tv us) (b:aa Z w w') (a:∀g,X g->X' g) (d:G'.y=G.y) (e:¬Z u) (f:∀g,tv.ownBlock=some g->¬Z g) (i:∀g c ys,X g->ay w 5 g c ys->¬Z g):ou w' X' k u G' T tv us:=
   ⟨h.tx.aw b e,a _ h.xt,(h.pl.aw b f i).mono a,h.nd,h.pu,by rw [d];exact h.kb,h.Ez⟩
def RW.on (h:RW w F X r s S ss ts) (m:ss[i]? =some I) (t:ts[j]? =some J) (P9:J.i=i) (BJ:I'.k=I.k) (UB:I'.kl=I.kl) (hy:I'.G.y=I.G.y) (hu:J'.u=J.u) (Q:J'.i=J.i)
    (he:aC w' F' r s S') (U:∀g,X g->X' g) (_hX':∀g,X' g->more X w w' g) (bj:iN w' F' X' r s S' I'.k I'.kl I'.G I'.pv I'.ps I'.hm I'.nv) (nX:ou w' X' I'.k J'.u I'.G J'.T J'.tv J'.us)
    (xP:I'.pv.ownBlock=I.pv.ownBlock\/∀g,I'.pv.ownBlock=some g->w.heap.size<=g) (Z:J'.tv.ownBlock=J.tv.ownBlock\/∀g,J'.tv.ownBlock=some g->w.heap.size<=g) (Y:∀g,I'.pv.ownBlock=some g->J'.tv.ownBlock≠some g)
    (W:aa (λg=>F g\/g=I.k\/g=I.kl\/g=J.u\/I.pv.ownBlock=some g\/J.tv.ownBlock=some g) w w') (hS:S'=S\/∀n K,ss[n]? =some K->n≠i->K.G.L.dead S'=true):
  RW w' F' X' r s S' (ss.set i I') (ts.set j J'):=by
 have Li:=(mS.1 m).1;have q:=h.jU m;have v:=h.px t (by rw [P9];exact m);have z:∀g c ys,X g->ay w 5 g c ys->¬(F g\/g=I.k\/g=I.kl\/g=J.u\/I.pv.ownBlock=some g\/J.tv.ownBlock=some g):=λg c ys hg H d=>by
  have BR:=H;obtain⟨cur,x,_⟩:=BR;rcases d with d|d|d|d|d|d
  .exact h.fO g hg d
  .exact H.ne q.st (by decide) d
  .exact H.ne q.lp (by decide) d
  .exact H.ne v.tx (by decide) d
  .exact q.pl.ne d x (by decide) rfl
  .exact v.pl.ne d x (by decide) rfl
 have TU:∀{n:Nat} {K:RI},ss[n]? =some K->∀g,K.pv.ownBlock=some g->g<w.heap.size:=λC g e=>(h.jU C).pl.rlt g e;have LB:∀{n:Nat} {K:RJ},ts[n]? =some K->∀g,K.tv.ownBlock=some g->g<w.heap.size:=λC g e=>by
  obtain⟨M,E,hT⟩:=h.tx _ (gB C);exact hT.pl.rlt g e
 have abk:∀g,I'.pv.ownBlock=some g->I.pv.ownBlock=some g\/w.heap.size<=g:=λg e=>xP.elim (λh=> .inl (h▸e)) (λh=> .inr (h g e));have abl:∀g,J'.tv.ownBlock=some g->J.tv.ownBlock=some g\/w.heap.size<=g:=λg e=>Z.elim (λh=> .inl (h▸e)) (λh=> .inr (h g e));refine⟨he,bj.fO,bj.lt,λK R=>?_,λK R=>?_,by rw [nj m BJ];exact h.nk,by rw [nj m UB];exact h.nl,by rw [nj t hu];exact h.nu,λa b A B D x oN g o p=>?_,λa b A B D x oN g o p=>?_,λA hA B hB g o p=>?_⟩
 .obtain⟨n,C⟩:=List.mem_iff_getElem?.1 R;rcases du m C with ⟨_,rfl⟩|⟨dM,BN⟩
  .exact bj
  .have f:=h.jU BN;refine f.other W U bj.fO bj.lt (λd=>?_) (λd=>?_) (λg e d=>?_) z (hS.imp id (λh=>h n K BN dM))
   .rcases d with d|d|d|d|d|d
    .exact h.fO _ f.xk d
    .exact i4 h.nk BN m dM d
    .exact db f.st q.lp (by decide) d
    .exact db f.st v.tx (by decide) d
    .exact q.pl.ne d f.st (by decide) rfl
    .exact v.pl.ne d f.st (by decide) rfl
   .rcases d with d|d|d|d|d|d
    .exact h.fO _ f.xl d
    .exact db f.lp q.st (by decide) d
    .exact i4 h.nl BN m dM d
    .exact db f.lp v.tx (by decide) d
    .exact q.pl.ne d f.lp (by decide) rfl
    .exact v.pl.ne d f.lp (by decide) rfl
   .rcases d with d|d|d|d|d|d
    .exact h.fO _ (f.pl.row g e) d
    .exact f.pl.ne e q.st (by decide) d
    .exact f.pl.ne e q.lp (by decide) d
    .exact f.pl.ne e v.tx (by decide) d
    .exact h.r1 _ _ _ _ BN m dM g e d
    .exact h.r3 K (gB BN) J (gB t) g e d
 .obtain⟨n,C⟩:=List.mem_iff_getElem?.1 R;rcases du t C with ⟨_,rfl⟩|⟨dM,BN⟩
  .exact⟨I',by rw [Q,P9];exact rR Li,nX⟩
  .obtain⟨M,E,f⟩:=h.tx K (gB BN);have zu:¬(F K.u\/K.u=I.k\/K.u=I.kl\/K.u=J.u\/I.pv.ownBlock=some K.u\/J.tv.ownBlock=some K.u):=λd=>by
    rcases d with d|d|d|d|d|d
    .exact h.fO _ f.xt d
    .exact db f.tx q.st (by decide) d
    .exact db f.tx q.lp (by decide) d
    .exact i4 h.nu BN t dM d
    .exact q.pl.ne d f.tx (by decide) rfl
    .exact v.pl.ne d f.tx (by decide) rfl
   have zr:∀g,K.tv.ownBlock=some g->¬(F g\/g=I.k\/g=I.kl\/g=J.u\/I.pv.ownBlock=some g\/J.tv.ownBlock=some g):=λg e d=>by
    rcases d with d|d|d|d|d|d
    .exact h.fO _ (f.pl.row g e) d
    .exact f.pl.ne e q.st (by decide) d
    .exact f.pl.ne e q.lp (by decide) d
    .exact f.pl.ne e v.tx (by decide) d
    .exact h.r3 I (gB m) K (gB BN) g d e
    .exact h.r2 _ _ _ _ BN t dM g e d
   by_cases P:K.i=i
   .rw [P,m] at E;cases E;exact⟨I',by rw [P];exact rR Li,by rw [BJ];exact f.other W U hy zu zr z⟩
   .exact⟨M,by rw [su (λh=>P h.symm)];exact E,f.other W U rfl zu zr z⟩
 .rcases du m D with ⟨_,rfl⟩|⟨N,E9⟩<;> rcases du m x with ⟨_,rfl⟩|⟨O,eI⟩
  .omega
  .rcases abk g o with l|l
   .exact h.r1 _ _ _ _ m eI (λe=>O e.symm) g l p
   .have:=TU eI g p;omega
  .rcases abk g p with l|l
   .exact h.r1 _ _ _ _ E9 m N g o l
   .have:=TU E9 g o;omega
  .exact h.r1 _ _ _ _ E9 eI oN g o p
 .rcases du t D with ⟨_,rfl⟩|⟨N,E9⟩<;> rcases du t x with ⟨_,rfl⟩|⟨O,eI⟩
  .omega
  .rcases abl g o with l|l
   .exact h.r2 _ _ _ _ t eI (λe=>O e.symm) g l p
   .have:=LB eI g p;omega
  .rcases abl g p with l|l
   .exact h.r2 _ _ _ _ E9 t N g o l
   .have:=LB E9 g o;omega
  .exact h.r2 _ _ _ _ E9 eI oN g o p
 .obtain⟨a,D⟩:=List.mem_iff_getElem?.1 hA;obtain⟨b,x⟩:=List.mem_iff_getElem?.1 hB;rcases du m D with ⟨_,rfl⟩|⟨N,E9⟩<;> rcases du t x with ⟨_,rfl⟩|⟨O,eI⟩
  .exact Y g o p
  .rcases abk g o with l|l
   .exact h.r3 I (gB m) B (gB eI) g l p
   .have:=LB eI g p;omega
  .rcases abl g p with l|l
   .exact h.r3 A (gB E9) J (gB t) g o l
   .have:=TU E9 g o;omega
  .exact h.r3 A (gB E9) B (gB eI) g o p
end
end
section
def iK {l:List Nat} (h:l.Nodup) (f:x∉l):(l ++ [x]).Nodup:=by
 rw [List.nodup_append];exact⟨h,by simp,λa c b d e=>by
  have:b=x:=by simpa using d
  exact f (this▸e▸c)⟩
section
variable {w w':World} {F F' P:Nat->Prop} {p s c c' i:Nat} {S S':DS} {ss:List PI} {ts:List PT} {I:PI} {G':SG}
def PW.lB (h:PW w F P p s S c ss ts) (m:∀g,F' g->more F w w' g) (hd:B.ax w' F' p s S' c') (a:aa F w w'):PW w' F' P p s S' c' ss ts:=by
 refine⟨hd,λg f i=>?_,λg f=>iL (h.lt g f) a.size,λI n=>?_,λJ o=>?_,h.nq,h.nl,h.nm,h.nt⟩
 .rcases m g i with i|i
  .exact h.fO g f i
  .have:=h.lt g f;omega
 .obtain⟨e,j,k,⟨b,d,p3⟩,l⟩:=h.st I n;exact⟨e.aw a (h.fO _ b),j.aw a (h.fO _ d),k.aw a (h.fO _ p3),⟨b,d,p3⟩,l⟩
 .obtain⟨I,q,e,j,⟨b,d⟩,k⟩:=h.tx J o;exact⟨I,q,(a.block _ (aq e) (h.fO _ b)).trans e,j.aw a (h.fO _ d),⟨b,d⟩,k⟩
def PW.onS (h:PW w F P p s S c ss ts) (j:ss[i]? =some I) (Q:G'.y=I.G.y) (O:∀g,F' g->more F w w' g) (bj:iw w' F' p s c' I.q I.l I.m S' G') (u:aa (λg=>F g\/g=I.q\/g=I.l\/g=I.m) w w'):
  PW w' F' P p s S' c' (ss.set i {I with G:=G'}) ts:=by
 obtain⟨Xu,Xv,o,⟨U,R,T⟩,_⟩:=h.st I (gB j);have xH:=List.nodup_append.1 h.nm;refine⟨bj.d,λg D a=>?_,λg D=>iL (h.lt g D) u.size,λK C=>?_,λK C=>?_,by rw [nj (f:=λx:PI=>x.q) (b:={I with G:=G'}) j rfl];exact h.nq,by rw [nj (f:=λx:PI=>x.l) (b:={I with G:=G'}) j rfl];exact h.nl,by rw [nj (f:=λx:PI=>x.m) (b:={I with G:=G'}) j rfl];exact h.nm,h.nt⟩
 .rcases O g a with a|a
  .exact h.fO g D a
  .have:=h.lt g D;omega
 .obtain⟨n,v⟩:=List.mem_iff_getElem?.1 C;rcases du j v with ⟨_,rfl⟩|⟨e,v⟩
  .exact⟨bj.st,bj.lp,bj.ch,⟨U,R,T⟩,bj.lk,bj.bg,bj.hs,bj.kb⟩
  .obtain⟨k,r,t,⟨z,A,p3⟩,N⟩:=h.st K (gB v);refine⟨k.aw u (λa=>?_),r.aw u (λa=>?_),t.aw u (λa=>?_),⟨z,A,p3⟩,N⟩
   .rcases a with a|a|a|a
    .exact h.fO _ z a
    .exact i4 h.nq v j e a
    .exact db k Xv (by decide) a
    .exact lA o k a.symm
   .rcases a with a|a|a|a
    .exact h.fO _ A a
    .exact db r Xu (by decide) a
    .exact i4 h.nl v j e a
    .exact lA o r a.symm
   .rcases a with a|a|a|a
    .exact h.fO _ p3 a
    .exact lA t Xu a
    .exact lA t Xv a
    .exact i4 xH.1 v j e a
 .obtain⟨M,H,k,r,⟨z,A⟩,t⟩:=h.tx K C;have J:=(u.block _ (aq k) (λa=>by
   rcases a with a|a|a|a
   .exact h.fO _ z a
   .exact db k Xu (by decide) a
   .exact db k Xv (by decide) a
   .exact lA o k a.symm)).trans k
  have L:=r.aw u (λa=>by
   rcases a with a|a|a|a
   .exact h.fO _ A a
   .exact lA r Xu a
   .exact lA r Xv a
   .exact(xH.2.2 I.m (List.mem_map_of_mem (gB j)) K.n (List.mem_map_of_mem C)) a.symm)
  by_cases E:K.i=i
  .rw [E,j] at H;cases H;exact⟨{I with G:=G'},by rw [E];exact rR ((mS.1 j).1),J,L,⟨z,A⟩,by rw [show ({I with G:=G'}:PI).G=G' from rfl,Q];exact t⟩
  .exact⟨M,by rw [su (λh=>E h.symm)];exact H,J,L,⟨z,A⟩,t⟩
def PW.push {l m:Nat} (h:PW w F P p s S c ss ts) (z:∀g,F' g->more F w w' g) (bj:iw w' F' p s c' q l m S' G') (G:w.heap.size<=q) (D:w.heap.size<=l) (E:w.heap.size<=m) (A:aa F w w'):
  PW w' F' (λg=>P g\/g=q\/g=l\/g=m) p s S' c' (ss ++ [⟨q,l,m,G'⟩]) ts:=by
 have hd:=h.lB z bj.d A;have old:∀{g},P g->g<w.heap.size:=λj=>h.lt _ j;have xH:=List.nodup_append.1 h.nm;refine⟨bj.d,λg j i=>?_,λg j=>?_,λK f=>?_,λK f=>?_,?_,?_,?_,h.nt⟩
 .rcases j with j|rfl|rfl|rfl
  .exact hd.fO g j i
  .exact bj.nq i
  .exact bj.nl i
  .exact bj.nm i
 .rcases j with j|rfl|rfl|rfl
  .exact hd.lt g j
  .exact bj.st.lt
  .exact bj.lp.lt
  .exact bj.ch.lt
 .rcases List.mem_append.1 f with f|f
  .obtain⟨o,r,t,⟨u,n,p3⟩,y⟩:=hd.st K f;exact⟨o,r,t,⟨.inl u, .inl n, .inl p3⟩,y⟩
  .rw [List.mem_singleton.1 f];exact⟨bj.st,bj.lp,bj.ch,⟨.inr (.inl rfl), .inr (.inr (.inl rfl)), .inr (.inr (.inr rfl))⟩,bj.lk,bj.bg,bj.hs,bj.kb⟩
 .obtain⟨M,v,o,r,⟨u,n⟩,t⟩:=hd.tx K f;exact⟨M,by rw [u9 (mS.1 v).1];exact v,o,r,⟨.inl u, .inl n⟩,t⟩
 .rw [List.map_append];refine iK h.nq (λi=>?_);obtain⟨K,f,e⟩:=List.mem_map.1 i;have:=old (h.st K f).2.2.2.1.1;simp only at e;omega
 .rw [List.map_append];refine iK h.nl (λi=>?_);obtain⟨K,f,e⟩:=List.mem_map.1 i;have:=old (h.st K f).2.2.2.1.2.1;simp only at e;omega
 .rw [List.map_append,List.nodup_append];refine⟨iK xH.1 (λi=>?_),xH.2.1,λa k b x=>?_⟩
  .obtain⟨K,f,e⟩:=List.mem_map.1 i;have:=old (h.st K f).2.2.2.1.2.2;simp only at e;omega
  .rcases List.mem_append.1 k with k|k
   .exact xH.2.2 a k b x
   .have C:a=m:=(by simpa using k);obtain⟨K,f,rfl⟩:=List.mem_map.1 x;obtain⟨M,_,_,_,⟨_,n⟩,_⟩:=h.tx K f;have:=old n;omega
def PW.abm {t:Nat} (h:PW w F P p s S c ss ts) (D:ss[i]? =some I) (nX:w.heap[t]? =some (.cells (B4 I.q n ⟨[],0,false⟩) 98 (0,0))) (ny:Ch w n []) (E:¬P t) (v:¬P n) (z:¬F t) (y:¬F n):
  PW w F (λg=>P g\/g=t\/g=n) p s S c ss (ts ++ [⟨i,t,n,⟨[],0,false⟩⟩]):=by
 have xH:=List.nodup_append.1 h.nm;refine⟨h.d,λg f b=>?_,λg f=>?_,λK a=>?_,λK a=>?_,h.nq,h.nl,?_,?_⟩
 .rcases f with f|rfl|rfl
  .exact h.fO g f b
  .exact z b
  .exact y b
 .rcases f with f|rfl|rfl
  .exact h.lt g f
  .exact aq nX
  .exact ny.lt
 .obtain⟨o,r,u,⟨k,l,p3⟩,A⟩:=h.st K a;exact⟨o,r,u,⟨.inl k, .inl l, .inl p3⟩,A⟩
 .rcases List.mem_append.1 a with a|a
  .obtain⟨M,C,o,r,⟨k,l⟩,u⟩:=h.tx K a;exact⟨M,C,o,r,⟨.inl k, .inl l⟩,u⟩
  .rw [List.mem_singleton.1 a];exact⟨I,D,nX,ny,⟨.inr (.inl rfl), .inr (.inr rfl)⟩,λx b=>by cases b⟩
 .rw [List.map_append,<-rG];refine iK h.nm (λb=>?_);rcases List.mem_append.1 b with b|b
  .obtain⟨K,a,e⟩:=List.mem_map.1 b;have j:K.m=n:=e;exact v (j▸(h.st K a).2.2.2.1.2.2)
  .obtain⟨K,a,e⟩:=List.mem_map.1 b;obtain⟨M,_,_,_,⟨_,l⟩,_⟩:=h.tx K a;have j:K.n=n:=e;exact v (j▸l)
 .rw [List.map_append];refine iK h.nt (λb=>?_);obtain⟨K,a,e⟩:=List.mem_map.1 b;obtain⟨M,_,_,_,⟨k,_⟩,_⟩:=h.tx K a;have j:K.t=t:=e;exact E (j▸k)
end
end
section
section
variable {w w':World} {F F' X X' X2:Nat->Prop} {r s i j:Nat} {S S':DS} {ss:List RI} {ts:List RJ} {I I':RI} {J J':RJ}
def iN.nE {j:Value} (h:iN w F X r s S k kl G j ps hm nv) (d:aa F w w') (n:∀g,F' g->more F w w' g) (o:G.L.dead S'=false->G.L.dead S=false/\∀b,b<G.y.blocks->S'.now (G.y.home+b)=S.now (G.y.home+b)):iN w' F' X r s S' k kl G j ps hm nv:=
   ⟨h.st.aw d (h.fO _ h.xk),h.lp.aw d (h.fO _ h.xl),h.pl.aw d (λg e=>h.fO _ (h.pl.row g e)) (λg _ _ f _=>h.fO g f),h.xk,h.xl,λg a f=>(n g f).elim (h.fO g a) (λf=>by have:=h.lt g a;omega),λg a=>iL (h.lt g a) d.size,h.lk,h.bg,h.hs,h.lh,h.ov,h.hm,h.kb,λhd b i a c p=>by
  obtain⟨l,m⟩:=o hd;rw [m b i];exact h.un l b i a c p⟩
def RW.lB (h:RW w F X r s S ss ts) (d:∀g,F' g->more F w w' g) (l:aC w' F' r s S') (c:aa F w w') (k:∀I∈ss,I.G.L.dead S'=false->I.G.L.dead S=false/\∀b,b<I.G.y.blocks->S'.now (I.G.y.home+b)=S.now (I.G.y.home+b)):RW w' F' X r s S' ss ts:=by
 refine⟨l,λg a f=>(d g f).elim (h.fO g a) (λf=>by have:=h.lt g a;omega),λg a=>iL (h.lt g a) c.size,λI e=>(h.st I e).nE c d (k I e),λJ j=>?_,h.nk,h.nl,h.nu,h.r1,h.r2,h.r3⟩;obtain⟨I,m,i⟩:=h.tx J j;exact⟨I,m,i.aw c h.fO⟩
def RW.onS (h:RW w F X r s S ss ts) (j:ss[i]? =some I) (BJ:I'.k=I.k) (UB:I'.kl=I.kl) (W:I'.G.y=I.G.y)
    (R:aC w' F' r s S') (bj:iN w' F' X r s S' I'.k I'.kl I'.G I'.pv I'.ps I'.hm I'.nv) (xP:I'.pv=I.pv)
    (z:aa (λg=>F g\/g=I.k\/g=I.kl) w w') (P:S'=S\/∀n K,ss[n]? =some K->n≠i->K.G.L.dead S'=true):
  RW w' F' X r s S' (ss.set i I') ts:=by
 have l:=h.jU j;have m:∀g c H,X g->ay w 5 g c H->¬(F g\/g=I.k\/g=I.kl):=λg c H T D d=>by
  rcases d with d|d|d
  .exact h.fO g T d
  .exact D.ne l.st (by decide) d
  .exact D.ne l.lp (by decide) d
 refine⟨R,bj.fO,bj.lt,λK t=>?_,λK t=>?_,by rw [nj j BJ];exact h.nk,by rw [nj j UB];exact h.nl,h.nu,λa b A B x Q oN g o p=>?_,h.r2,λA O B C g o p=>?_⟩
 .obtain⟨n,U⟩:=List.mem_iff_getElem?.1 t;rcases du j U with ⟨_,rfl⟩|⟨dM,BN⟩
  .exact bj
  .have f:=h.jU BN;refine f.other z (λ_ h=>h) bj.fO bj.lt (λd=>?_) (λd=>?_) (λg e d=>?_) m (P.imp id (λh=>h n K BN dM))
   .rcases d with d|d|d
    .exact h.fO _ f.xk d
    .exact i4 h.nk BN j dM d
    .exact db f.st l.lp (by decide) d
   .rcases d with d|d|d
    .exact h.fO _ f.xl d
    .exact db f.lp l.st (by decide) d
    .exact i4 h.nl BN j dM d
   .rcases d with d|d|d
    .exact h.fO _ (f.pl.row g e) d
    .exact f.pl.ne e l.st (by decide) d
    .exact f.pl.ne e l.lp (by decide) d
 .obtain⟨M,v,f⟩:=h.tx K t;have N:¬(F K.u\/K.u=I.k\/K.u=I.kl):=λd=>by
   rcases d with d|d|d
   .exact h.fO _ f.xt d
   .exact db f.tx l.st (by decide) d
   .exact db f.tx l.lp (by decide) d
  have J:∀g,K.tv.ownBlock=some g->¬(F g\/g=I.k\/g=I.kl):=λg e d=>by
   rcases d with d|d|d
   .exact h.fO _ (f.pl.row g e) d
   .exact f.pl.ne e l.st (by decide) d
   .exact f.pl.ne e l.lp (by decide) d
  by_cases q:K.i=i
  .rw [q,j] at v;cases v;exact⟨I',by rw [q];exact rR ((mS.1 j).1),by rw [BJ];exact f.other z (λ_ h=>h) W N J m⟩
  .exact⟨M,by rw [su (λh=>q h.symm)];exact v,f.other z (λ_ h=>h) rfl N J m⟩
 .rcases du j x with ⟨_,rfl⟩|⟨E,E9⟩<;> rcases du j Q with ⟨_,rfl⟩|⟨Y,eI⟩
  .omega
  .exact h.r1 _ _ _ _ j eI (λe=>Y e.symm) g (xP▸o) p
  .exact h.r1 _ _ _ _ E9 j E g o (xP▸p)
  .exact h.r1 _ _ _ _ E9 eI oN g o p
 .obtain⟨a,x⟩:=List.mem_iff_getElem?.1 O;rcases du j x with ⟨_,rfl⟩|⟨E,E9⟩
  .exact h.r3 I (gB j) B C g (xP▸o) p
  .exact h.r3 A (gB E9) B C g o p
def RW.push (h:RW w F X r s S ss ts) (z:∀g,F' g->more F w w' g) (MP:∀g,X2 g->w.heap.size<=g) (t:aC w' F' r s S') (bj:iN w' F' X2 r s S' I.k I.kl I.G I.pv I.ps I.hm I.nv) (xP:I.pv.ownBlock=none) (H:aa F w w') (C:∀K∈ss,K.G.L.dead S'=true):
  RW w' F' (λg=>X g\/X2 g) r s S' (ss ++ [I]) ts:=by
 have hd:=h.lB z t H (λK c i=>by rw [C K c] at i;cases i);have Cj:∀g,(X g\/X2 g)->¬F' g:=λg o=>o.elim (hd.fO g) (bj.fO g);have d:∀g,(X g\/X2 g)->g<w'.heap.size:=λg o=>o.elim (hd.lt g) (bj.lt g);have N:∀{K:RI},iN w' F' X r s S' K.k K.kl K.G K.pv K.ps K.hm K.nv->iN w' F' (λg=>X g\/X2 g) r s S' K.k K.kl K.G K.pv K.ps K.hm K.nv:=λg=>⟨g.st,g.lp,g.pl.mono (λ_ h=> .inl h), .inl g.xk, .inl g.xl,Cj,d,g.lk,g.bg,g.hs,g.lh,g.ov,g.hm,g.kb,g.un⟩;refine⟨t,Cj,d,λK c=>?_,λK c=>?_,?_,?_,h.nu,λa b A B D E oN g f m=>?_,h.r2,λA j B y g f m=>?_⟩
 .rcases List.mem_append.1 c with c|c
  .exact N (hd.st K c)
  .rw [List.mem_singleton.1 c];exact⟨bj.st,bj.lp,bj.pl.mono (λ_ h=> .inr h), .inr bj.xk, .inr bj.xl,Cj,d,bj.lk,bj.bg,bj.hs,bj.lh,bj.ov,bj.hm,bj.kb,bj.un⟩
 .obtain⟨M,q,g⟩:=hd.tx K c;exact⟨M,by rw [u9 (mS.1 q).1];exact q,g.mono (λ_ h=> .inl h)⟩
 .rw [List.map_append];refine iK h.nk (λi=>?_);obtain⟨K,c,e⟩:=List.mem_map.1 i;have u:K.k=I.k:=e;have v:=h.lt _ (h.st K c).xk;have x:=MP _ bj.xk;omega
 .rw [List.map_append];refine iK h.nl (λi=>?_);obtain⟨K,c,e⟩:=List.mem_map.1 i;have u:K.kl=I.kl:=e;have v:=h.lt _ (h.st K c).xl;have x:=MP _ bj.xl;omega
 .have l:∀{n:Nat} {A:RI},(ss ++ [I])[n]? =some A->A.pv.ownBlock=some g->ss[n]? =some A:=λ{n A} p e=>by
   by_cases J:n<ss.length
   .rwa [u9 J] at p
   .rw [wm (by omega)] at p;have:A=I:=by
     have:=gB p;simpa using this
    rw [this,xP] at e;cases e
  exact h.r1 _ _ _ _ (l D f) (l E m) oN g f m
 .rcases List.mem_append.1 j with j|j
  .exact h.r3 A j B y g f m
  .rw [List.mem_singleton.1 j,xP] at f;cases f
def RW.abm (h:RW w F X r s S ss ts) (E:ss[i]? =some I) (nX:nz w u I.k (.slice none 0 0) ⟨[],0,false⟩) (H:¬X u) (y:¬F u):
  RW w F (λg=>X g\/g=u) r s S ss (ts ++ [⟨i,u, .slice none 0 0, [],⟨[],0,false⟩⟩]):=by
 have Cj:∀g,(X g\/g=u)->¬F g:=λg o=>o.elim (h.fO g) (λe=>e▸y);have l:∀g,(X g\/g=u)->g<w.heap.size:=λg o=>o.elim (h.lt g) (λe=>e▸nX.lt);refine⟨h.e,Cj,l,λK c=>?_,λK c=>?_,h.nk,h.nl,?_,h.r1,λa b A B C D oN g m d=>?_,λA z B f g m d=>?_⟩
 .have g:=h.st K c;exact⟨g.st,g.lp,g.pl.mono (λ_ h=> .inl h), .inl g.xk, .inl g.xl,Cj,l,g.lk,g.bg,g.hs,g.lh,g.ov,g.hm,g.kb,g.un⟩
 .rcases List.mem_append.1 c with c|c
  .obtain⟨M,t,g⟩:=h.tx K c;exact⟨M,t,g.mono (λ_ h=> .inl h)⟩
  .rw [List.mem_singleton.1 c];exact⟨I,E,⟨nX, .inr rfl,Pl.nil _ _,List.nodup_nil,λ_=>rfl,λx q=>(by cases q),dL _⟩⟩
 .rw [List.map_append];refine iK h.nu (λq=>?_);obtain⟨K,c,e⟩:=List.mem_map.1 q;have v:K.u=u:=e;obtain⟨M,t,g⟩:=h.tx K c;exact H (v▸g.xt)
 .have j:∀{n:Nat} {A:RJ},(ts ++ [⟨i,u, .slice none 0 0, [],⟨[],0,false⟩⟩])[n]? =some A->A.tv.ownBlock=some g->ts[n]? =some A:=λ{n A} p e=>by
   by_cases G:n<ts.length
   .rwa [u9 G] at p
   .rw [wm (by omega)] at p;have:A=⟨i,u, .slice none 0 0, [],⟨[],0,false⟩⟩:=by
     have:=gB p;simpa using this
    rw [this] at e;simp [Value.ownBlock] at e
  exact h.r2 _ _ _ _ (j C m) (j D d) oN g m d
 .rcases List.mem_append.1 f with f|f
  .exact h.r3 A z B f g m d
  .rw [List.mem_singleton.1 f] at d;simp [Value.ownBlock] at d
end
end
def I8 (n:Int) (i:Nat):Int:=if i%7=3 then IntKind.u8.wrap (n / 256) else IntKind.u8.wrap n
def I9 (n:Int):List Int:=(List.range 512).map (I8 n)
def uZ (n:Int):(I9 n).length=512:=by simp [I9]
def Co (n:Int) (k:Nat):List Int:=(List.range k).map (I8 n) ++ List.replicate (512-k) 0
def Uv (n:Int) (h:k<=512):(Co n k).length=512:=by simp [Co];omega
def Uw (n:Int) (h:k<512):(Co n k).set k (I8 n k)=Co n (k+1):=by
 unfold Co;rw [List.set_append_right _ _ (by simp),List.range_succ,List.map_append,rG];congr 1;simp only [jF,List.length_range,Nat.sub_self];rw [show 512-k=(512-(k+1))+1 by omega,List.replicate_succ];rfl
def Ux (n:Int):Co n 512=I9 n:=by simp [Co,I9]
def PE (n:Int) (w:World):
  Calls prog 133 #[iV n] w λe w'=>e= .returned (.slice (some (aD w.heap.size 0)) 512 512)/\ay w' 5 w.heap.size 512 (bs (I9 n))/\bW w w':=by
 obtain⟨p,o,gC,dE,em⟩:=info_parts gq;go_in;go_wp2_with (at_make;refine wpList_make_full _ rfl _ _ 36 rfl w.heap.size 5 p (.int .u8 0) 1 underlying36 o gC dE _ _ _ _ 512 rfl rfl (by omega) (by omega) (by rw [em];omega) (by unfold maxLen;omega) (bR _) ?_);intro w1 aA aR;have f:=(bi _ w).grown aR (bR _) (by intro k c;cases c);have g:Full w1 w.heap.size (Co n 0):=(lZ aA).full (by simp [bs]);have l:=g;have j:=f;clear aA aR g f;go_wp2;go_loopw [4] (λi wr=>∃k:Nat,k<=512/\i=iV (k:Int)/\Full wr w.heap.size (Co n k)/\bW w wr) (λi _=>512-(intOf i).toNat);case atStart=>exact⟨0,by omega,rfl,l,j⟩
 case round=>
  obtain⟨k,c,rfl,wV,ey⟩:=hrel;by_cases q:k<512
  .have r:(k:Int)<512:=(by omega);have s:=wV.cell (i:=k) (by rw [Uv n c];exact q);have u:=wV.frozen k;have t:(k:Int).tmod 7=((k%7:Nat):Int):=(by rw [yI (by omega)];omega);have MJ:=wV;have mr:=ey;have d:=Uw n q;clear wV ey;by_cases b:k%7=3
   .have m:(((k%7:Nat):Int) == 3)=true:=(by rw [b];rfl);have YF:I8 n k=IntKind.u8.wrap (n / 256):=(by unfold I8;rw [aG b]);have a:=YF;clear YF b;go_wp2;go_roundw;case rel=>exact⟨k+1,by omega,by go_num,by rw [<-d,a,<-Dn (Co n k) k (n%256)];exact(MJ.set k _).set k _,(mr.setCell (bR _) _).setCell (bR _) _⟩
    case measure=>simp [intOf];omega
   .have m:(((k%7:Nat):Int) == 3)=false:=(by rw [fy];omega);have YF:I8 n k=IntKind.u8.wrap n:=(by unfold I8;rw [aB b]);have a:=YF;clear YF b;go_wp2;go_roundw;case rel=>exact⟨k+1,by omega,by go_num,by rw [<-d,a];exact MJ.set k _,mr.setCell (bR _) _⟩
    case measure=>simp [intOf];omega
  .have r:¬(k:Int)<512:=(by omega);obtain rfl:k=512:=(by omega);rw [Ux] at wV;have MJ:=wV;have mr:=ey;clear wV ey;go_wp2;go_ret;exact⟨rfl,by have:=ay.E0 MJ (by rw [uZ];omega);rwa [uZ] at this,mr⟩
def Mb (n:Int):Bytes (I9 n):=λx c=>by
 unfold I9 at c;obtain⟨i,_,rfl⟩:=List.mem_map.1 c;unfold I8;split
 .have a:0<=n / 256%256:=Int.emod_nonneg _ (by decide);have b:n / 256%256<256:=Int.emod_lt_of_pos _ (by decide);exact⟨a,b⟩
 .have a:0<=n%256:=Int.emod_nonneg _ (by decide);have b:n%256<256:=Int.emod_lt_of_pos _ (by decide);exact⟨a,b⟩
abbrev jG (kd ag A B:Int) (da:Option Addr) (dn dc:Nat) (pa:Option Addr) (pn pc:Nat) (x y z:Int):Array Value:= #[iV kd,iV ag,iV A,iV B, .slice da dn dc, .slice pa pn pc,iV x,iV y,iV z]
def lC (B:Int) (d:List Int):List Int:=if d.length=0/\B≠0 then I9 B else d
def lS (o m A B:Int) (i:Option Addr) (a k:Nat) (p:Option Addr) (s r:Nat) (x y z:Int) (d:List Int) (w:World) (n:Src w i a d) (E:a<=140737488355328):
  Calls prog 80 #[.agg (jG o m A B i a k p s r x y z)] w λe w'=>∃g,e= .returned (.slice (some (aD g 0)) (lC B d).length (lC B d).length)/\w.heap.size<=g/\ay w' 5 g (lC B d).length (bs (lC B d))/\bW w w':=by
 have t:=n.1;obtain⟨W,b⟩:=bP (w.alloc (.cells (jG o m A B i a k p s r x y z) 41));have E8:bW w W:=by rw [b];exact(bi w.heap.size w).alloc (bR _) _
 have Ci:W.heap[w.heap.size]? =some (.cells (jG o m A B i a k p s r x y z) 41 (0,0)):=by rw [b];exact heap_alloc_new _ _
 have G:W.cell? (aD w.heap.size 3)=some (iV B):=fU Ci;have H:W.cell? (aD w.heap.size 4)=some (.slice i a k):=gH Ci;have l:=tK i a k d W E (n.later E8);have De:=E8;have Il:W.heap.size=w.heap.size+1:=by rw [b,World.size_alloc]
 unfold lC;clear n E8 Ci;by_cases q:d.length=0/\B≠0
 .rw [aG q,uZ];obtain⟨u,v⟩:=q;obtain rfl:a=0:=by omega
  have C:(B != 0)=true:=by rw [gg];exact v
  clear v l;go_in;go_wp2_with fail;try rw [<-b]
  try clear b
  try go_wp2_with fail
  refine(PE B W).mono ?_;rintro e w1 ⟨rfl,f,c⟩;have j:=(aH f (De.trans (c.mono (by omega))));clear f c;go_wp2;go_ret;exact⟨w.heap.size+1,rfl,by omega,by rw [<-Il];exact j⟩
 .rw [aB q,t];by_cases u:a=0
  .subst u;have C:(B != 0)=false:=(by rw [bne_eq_false_iff_eq];exact Decidable.byContradiction (λh=>q ⟨t,h⟩));clear q;go_in;go_wp2_with fail;try rw [<-b]
   try clear b
   try go_wp2_with fail
   refine l.mono ?_;rintro e w1 ⟨g,rfl,D,f,c⟩;have j:=(aH f (De.trans (c.mono (by omega))));clear l f c;go_wp2;go_ret;exact⟨g,rfl,by omega,j⟩
  .have F:((a:Int) == 0)=false:=(by rw [fy];omega);clear q;go_in;go_wp2_with fail;try rw [<-b]
   try clear b
   try go_wp2_with fail
   refine l.mono ?_;rintro e w1 ⟨g,rfl,D,f,c⟩;have j:=(aH f (De.trans (c.mono (by omega))));clear l f c;go_wp2;go_ret;exact⟨g,rfl,by omega,j⟩
section
abbrev pV (l:Nat):Value:=pQ l
abbrev U7 (p r:Nat) (v1 v2 v3 v4:Value):Array Value:= #[pV p,pV r,v1,v2,v3,v4]
structure W5 (w:World) (q:Nat) (F P F2 X O:Nat->Prop) (p r s:Nat) (S S2:DS) (c:Nat) (v1 v2 v3 v4:Value) (ss:List PI) (ts:List PT) (rs:List RI) (us:List RJ):Prop where
 box:w.heap[q]? =some (.cells (U7 p r v1 v2 v3 v4) 35 (0,0))
 oq:O q
 py:∀g,O g->g<w.heap.size
 pw:PW w F P p s S c ss ts
 rw:RW w F2 X r s S2 rs us
 o1:w.ownsRow 0 53 1 v1 ss.length (ss.map (λI=>pV I.q))
 q1:∀g,v1.ownBlock=some g->O g
 o2:w.ownsRow 0 110 1 v2 rs.length (rs.map (λI=>pV I.k))
 q2:∀g,v2.ownBlock=some g->O g
 o3:w.ownsRow 0 56 1 v3 ts.length (ts.map (λJ=>pV J.t))
 q3:∀g,v3.ownBlock=some g->O g
 o4:w.ownsRow 0 122 1 v4 us.length (us.map (λJ=>pV J.u))
 q4:∀g,v4.ownBlock=some g->O g
 ad:∀g,(F g\/P g)->¬(F2 g\/X g)
 oa:∀g,O g->¬(F g\/P g)
 od:∀g,O g->¬(F2 g\/X g)
structure Lk (S:DS) (s N:Nat) (ss:List PI) (ts:List PT) (rs:List RI) (us:List RJ):Prop where
 sl:rs.length=ss.length
 sg:∀(i:Nat) (I:PI) (R:RI),ss[i]? =some I->rs[i]? =some R->R.G=I.G
 tl:us.length=ts.length
 tg:∀(j:Nat) (J:PT) (K:RJ),ts[j]? =some J->us[j]? =some K->K.i=J.i/\K.T=J.T
 inv:V.Inv S s (ss.map (λI=>I.G.L)) N
 now:∀(i:Nat) (I:PI) (R:RI),ss[i]? =some I->rs[i]? =some R->
    (R.nv= .pointer none/\I.G.busy=false/\∀(j:Nat) (J:PT),ts[j]? =some J->J.i=i->J.T.ended=true)\/
  ∃(j:Nat) (J:PT) (K:RJ),ts[j]? =some J/\us[j]? =some K/\J.i=i/\R.nv=pV K.u/\J.T.ended=!I.G.busy/\∀(j':Nat) (J':PT),ts[j']? =some J'->J'.i=i->j'≠j->J'.T.ended=true
 cs:∀R∈rs,R.ps.length<=N
 ct:∀(i:Nat) (R:RI) (K:RJ),rs[i]? =some R->K∈us->K.i=i->K.T.ended=false->R.ps.length+K.us.length<=N
 rf:S.refused=0
section
variable {w w':World} {q:Nat} {F P F2 X O F' P' X':Nat->Prop} {p r s c c':Nat} {S S2 S':DS} {v1 v2 v3 v4:Value} {ss TV:List PI} {ts Xw:List PT} {rs Bw:List RI} {us K1:List RJ}
def W5.c0 (h:W5 w q F P F2 X O p r s S S2 c v1 v2 v3 v4 ss ts rs us):w.cell? (aD q 0)=some (pV p):=aM h.box
def W5.c1 (h:W5 w q F P F2 X O p r s S S2 c v1 v2 v3 v4 ss ts rs us):w.cell? (aD q 1)=some (pV r):=bG h.box
def W5.c2 (h:W5 w q F P F2 X O p r s S S2 c v1 v2 v3 v4 ss ts rs us):w.cell? (aD q 2)=some v1:=bM h.box
def W5.c3 (h:W5 w q F P F2 X O p r s S S2 c v1 v2 v3 v4 ss ts rs us):w.cell? (aD q 3)=some v2:=fU h.box
def W5.c4 (h:W5 w q F P F2 X O p r s S S2 c v1 v2 v3 v4 ss ts rs us):w.cell? (aD q 4)=some v3:=gH h.box
def W5.c5 (h:W5 w q F P F2 X O p r s S S2 c v1 v2 v3 v4 ss ts rs us):w.cell? (aD q 5)=some v4:=sv h.box
def W5.aw (h:W5 w q F P F2 X O p r s S S2 c v1 v2 v3 v4 ss ts rs us) (b:aa Z w w') (d:∀g,(F g\/P g\/F2 g\/X g\/O g)->¬Z g):W5 w' q F P F2 X O p r s S S2 c v1 v2 v3 v4 ss ts rs us:=by
 have f:=λg a=>d g (.inr (.inr (.inr (.inr a))));exact⟨(b.block q (h.py q h.oq) (f q h.oq)).trans h.box,h.oq,λg a=>iL (h.py g a) b.size,h.pw.aw b (λg a=>d g (.inl a)) (λg a=>d g (.inr (.inl a))),h.rw.aw b (λg a=>d g (.inr (.inr (.inl a)))) (λg a=>d g (.inr (.inr (.inr (.inl a))))),aF h.o1 (λg e=>b.block g (h.py g (h.q1 g e)) (f g (h.q1 g e))),h.q1,aF h.o2 (λg e=>b.block g (h.py g (h.q2 g e)) (f g (h.q2 g e))),h.q2,aF h.o3 (λg e=>b.block g (h.py g (h.q3 g e)) (f g (h.q3 g e))),h.q3,aF h.o4 (λg e=>b.block g (h.py g (h.q4 g e)) (f g (h.q4 g e))),h.q4,h.ad,h.oa,h.od⟩
def W5.later (h:W5 w q F P F2 X O p r s S S2 c v1 v2 v3 v4 ss ts rs us) (a:bW w w'):W5 w' q F P F2 X O p r s S S2 c v1 v2 v3 v4 ss ts rs us:=h.aw (aa.ah (λ_=>False) a) (λ_ _ h=>h)
def W5.prog (h:W5 w q F P F2 X O p r s S S2 c v1 v2 v3 v4 ss ts rs us) (i:PW w' F' P p s S' c' TV Xw) (d:aa (λg=>F g\/P g) w w') (m:∀g,F' g->more F w w' g) (j:TV.map (λI=>pV I.q)=ss.map (λI=>pV I.q)) (k:Xw.map (λJ=>pV J.t)=ts.map (λJ=>pV J.t)):W5 w' q F' P F2 X O p r s S' S2 c' v1 v2 v3 v4 TV Xw rs us:=by
 have f:=h.oa;have n:TV.length=ss.length:=by have:=congrArg List.length j;simpa using this
 have o:Xw.length=ts.length:=by have:=congrArg List.length k;simpa using this
 have l:=λg a=>(m g a).imp id (λh=>h.1);refine⟨(d.block q (h.py q h.oq) (f q h.oq)).trans h.box,h.oq,λg a=>iL (h.py g a) d.size,i,h.rw.aw d (λg a b=>h.ad g b (.inl a)) (λg a b=>h.ad g b (.inr a)),by rw [n,j];exact aF h.o1 (λg e=>d.block g (h.py g (h.q1 g e)) (f g (h.q1 g e))),h.q1,aF h.o2 (λg e=>d.block g (h.py g (h.q2 g e)) (f g (h.q2 g e))),h.q2,by rw [o,k];exact aF h.o3 (λg e=>d.block g (h.py g (h.q3 g e)) (f g (h.q3 g e))),h.q3,aF h.o4 (λg e=>d.block g (h.py g (h.q4 g e)) (f g (h.q4 g e))),h.q4,λg a b=>?_,λg a b=>?_,h.od⟩
 .rcases a with a|a
  .rcases l g a with a|a
   .exact h.ad g (.inl a) b
   .rcases b with b|b
    .have:=h.rw.e.lt g b;omega
    .have:=h.rw.lt g b;omega
  .exact h.ad g (.inr a) b
 .rcases b with b|b
  .rcases l g b with b|b
   .exact h.oa g a (.inl b)
   .have:=h.py g a;omega
  .exact h.oa g a (.inr b)
def W5.doc {i:Nat->Prop} (h:W5 w q F P F2 X O p r s S S2 c v1 v2 v3 v4 ss ts rs us) (m:RW w' i X' r s S' Bw K1) (j:aa (λg=>F2 g\/X g) w w') (x:∀g,i g->more F2 w w' g) (y:∀g,X' g->more X w w' g) (n:Bw.map (λI=>pV I.k)=rs.map (λI=>pV I.k)) (o:K1.map (λJ=>pV J.u)=us.map (λJ=>pV J.u)):W5 w' q F P i X' O p r s S S' c v1 v2 v3 v4 ss ts Bw K1:=by
 have l:=h.od;have z:Bw.length=rs.length:=by have:=congrArg List.length n;simpa using this
 have A:K1.length=us.length:=by have:=congrArg List.length o;simpa using this
 have t:=λg a=>(x g a).imp id (λh=>h.1);have v:=λg a=>(y g a).imp id (λh=>h.1);refine⟨(j.block q (h.py q h.oq) (l q h.oq)).trans h.box,h.oq,λg a=>iL (h.py g a) j.size,h.pw.aw j (λg a f=>h.ad g (.inl a) f) (λg a f=>h.ad g (.inr a) f),m,aF h.o1 (λg e=>j.block g (h.py g (h.q1 g e)) (l g (h.q1 g e))),h.q1,by rw [z,n];exact aF h.o2 (λg e=>j.block g (h.py g (h.q2 g e)) (l g (h.q2 g e))),h.q2,aF h.o3 (λg e=>j.block g (h.py g (h.q3 g e)) (l g (h.q3 g e))),h.q3,by rw [A,o];exact aF h.o4 (λg e=>j.block g (h.py g (h.q4 g e)) (l g (h.q4 g e))),h.q4,λg a f=>?_,h.oa,λg a f=>?_⟩
 .have bq:=a.elim (λb=>h.pw.d.lt g b) (λb=>h.pw.lt g b);rcases f with f|f
  .exact(t g f).elim (λb=>h.ad g a (.inl b)) (λb=>by omega)
  .exact(v g f).elim (λb=>h.ad g a (.inr b)) (λb=>by omega)
 .have bq:=h.py g a;rcases f with f|f
  .exact(t g f).elim (λb=>h.od g a (.inl b)) (λb=>by omega)
  .exact(v g f).elim (λb=>h.od g a (.inr b)) (λb=>by omega)
def wi {w:World} {x:Value} (h:w.ownsRow 0 e 1 v n xs) (b:xs[i]? =some x):∃g cp,v= .slice (some (aD g 0)) n cp/\w.cell? (aD g i)=some x:=by
 have c:=h;obtain⟨d,⟨rfl,h0⟩|⟨g,a,cur,rfl,_⟩⟩:=h
 .rw [h0] at d;have:xs= []:=List.length_eq_zero_iff.1 (by omega);rw [this] at b;cases b
 .refine⟨g,a,rfl,?_⟩;have:=c.cells (g:=g) rfl i _ b;rwa [aN,Nat.zero_add] at this
end
end
section
def bk (n:Nat) (x:Int):Int:=if n=0 then-1 else ((n-1-x.toNat%n:Nat):Int)
def TW (h:0<n) (x:Int):∃i:Nat,i<n/\bk n x=(i:Int):=⟨n-1-x.toNat%n,by omega,by unfold bk;rw [aB (by omega)]⟩
def AU (w:World) (n:Nat) (x:Int) (j:x<=9223372036854775807) (i:n<=140737488355328):
  Calls prog 73 #[iV (n:Int),iV x] w λe w'=>e= .returned (iV (bk n x))/\w'=w:=by
 by_cases h0:n=0
 .subst h0;go_in;go_wp2;go_ret;exact⟨rfl,rfl⟩
 .have f:¬(n:Int)=0:=by omega
  have g:((n:Int) == 0)=false:=by rw [fy];omega
  have tF:bk n x=((n-1-x.toNat%n:Nat):Int):=by unfold bk;rw [aB h0]
  rw [tF];clear tF;by_cases k:x<0
  .have a:(0:Int).tmod (n:Int)=0:=(by simp);have b:x.toNat%n=0:=(by rw [show x.toNat=0 by omega];exact Nat.zero_mod n);rw [b];clear b;go_in;go_wp2;go_ret;exact⟨by congr 1;congr 1;first|omega|(simp;omega),rfl⟩
  .obtain⟨y,rfl⟩:∃y:Nat,x=(y:Int):=⟨x.toNat,by omega⟩;rw [mx];have a:(y:Int).tmod (n:Int)=((y%n:Nat):Int):=(by rw [yI (by omega),<-Int.natCast_emod]);have c:y%n<n:=Nat.mod_lt _ (by omega);have d:IntKind.i64.wrap ((y%n:Nat):Int)=((y%n:Nat):Int):=(by rw [IntKind.wrap_i64];omega);obtain⟨m,Cp⟩:=bP (y%n);rw [<-Cp] at a c d⊢;clear Cp;go_in;go_wp2;go_ret;exact⟨by congr 1;congr 1;first|omega|(simp;omega),rfl⟩
def E5 (w:World) (q:Nat) (A:Nat->Prop) (p r s N:Nat):Prop:=
 ∃(F P F2 X O:Nat->Prop) (S:DS) (c:Nat) (v1 v2 v3 v4:Value) (ss:List PI) (ts:List PT) (rs:List RI) (us:List RJ),W5 w q F P F2 X O p r s S S c v1 v2 v3 v4 ss ts rs us/\Lk S s N ss ts rs us/\(∀g,(F g\/P g\/F2 g\/X g\/O g)->A g)/\ss.length<=N/\ts.length<=N/\c<=5000*N
def ew (w w':World) (q:Nat) (A:Nat->Prop) (p r s N:Nat):Prop:=∃A',E5 w' q A' p r s (N+2)/\aa A w w'/\∀g,A' g->A g\/w.heap.size<=g
section
variable {w w':World} {q:Nat} {F P F2 X O A:Nat->Prop} {p r s c N:Nat} {S:DS} {v1 v2 v3 v4:Value} {ss:List PI} {ts:List PT} {rs:List RI} {us:List RJ}
def V.Inv.more {t a:Nat} (h:V.Inv S s ls t) (b:t<=a):V.Inv S s ls a:=⟨h.ok,h.qi,h.p6,h.p2,h.l0,by have:=h.lt;omega,h.ol,h.li,h.al⟩
def Lk.more (h:Lk S s N ss ts rs us) (a:N<=M):Lk S s M ss ts rs us:=⟨h.sl,h.sg,h.tl,h.tg,h.inv.more a,h.now,λR f=>k9 (h.cs R f) a,λi R K b c d e=>k9 (h.ct i R K b c d e) a,h.rf⟩
def ew.idle (h:W5 w' q F P F2 X O p r s S S c v1 v2 v3 v4 ss ts rs us) (d:Lk S s N ss ts rs us) (a:∀g,(F g\/P g\/F2 g\/X g\/O g)->A g) (e:ss.length<=N) (f:ts.length<=N) (i:c<=5000*N) (b:bW w w'):ew w w' q A p r s N:=
   ⟨A,⟨F,P,F2,X,O,S,c,v1,v2,v3,v4,ss,ts,rs,us,h,d.more (by omega),a,by omega,by omega,by omega⟩,aa.ah _ b,λ_ h=> .inl h⟩
end
end
section
section
variable {w w':World} {q:Nat} {F P F2 X O A:Nat->Prop} {p r s c N:Nat} {S:DS} {v1 v2 v3 v4:Value} {ss:List PI} {ts:List PT} {rs:List RI} {us:List RJ}
def AV {w:World} (h:w.ownsRow 0 e 1 v n xs):∃a cp,v= .slice a n cp:=by
 obtain⟨_,⟨rfl,h0⟩|⟨g,b,cur,rfl,_⟩⟩:=h
 .exact⟨none,0,by rw [h0]⟩
 .exact⟨_,_,rfl⟩
def W5.tx (h:W5 w q F P F2 X O p r s S S c v1 v2 v3 v4 ss ts rs us) (a:Lk S s N ss ts rs us) (d:j<ts.length):∃J K I R,ts[j]? =some J/\us[j]? =some K/\ss[J.i]? =some I/\rs[J.i]? =some R/\K.i=J.i/\K.T=J.T/\R.G=I.G:=by
 obtain⟨I,b,_⟩:=h.pw.tx ts[j] (List.getElem_mem d);have f:us[j]? =some (us[j]'(by rw [a.tl];exact d)):=qQ _;have e:=qQ d;have g:rs[ts[j].i]? =some (rs[ts[j].i]'(by rw [a.sl];exact((mS.1 b).1))):=qQ _;obtain⟨k,l⟩:=a.tg j _ _ e f;exact⟨_,_,I,_,e,f,b,g,k,l,a.sg _ _ _ b g⟩
end
end
section
section
variable {w w':World} {F P F2 X:Nat->Prop} {p r s c N q l m t n i j:Nat} {S:DS} {G:SG} {T T':TG} {ss:List PI} {ts:List PT} {rs:List RI} {us:List RJ} {I:PI} {R:RI} {J J':PT} {K K':RJ}
def iw.abn (h:iw w F p s c q l m S G) (b:mL w F q l m t n G T) (e:aa (λg=>g=t\/g=n) w w'):iw w' F p s c q l m S G:=
   ⟨h.d.aw e (λg f a=>by rcases a with rfl|rfl;exact b.nt f;exact b.nn f),h.st.aw e (λa=>by rcases a with a|a;exact b.tq a.symm;exact b.nq a.symm),h.lp.aw e (λa=>by rcases a with a|a;exact b.tl a.symm;exact b.nl a.symm),h.ch.aw e (λa=>by rcases a with a|a;exact b.tm a.symm;exact b.nm a.symm),h.nq,h.nl,h.nm,h.ql,h.qm,h.lm,h.lk,h.bg,h.hs,h.kb⟩
def mR {l:List α} {i:Nat} {a:α} (h:l[i]? =some a):l.set i a=l:=by
 apply List.ext_getElem?;intro n;by_cases e:n=i
 .subst e;rw [rR (mS.1 h).1,h]
 .rw [su (λh=>e h.symm)]
def Lk.LC (h:Lk S s N ss ts rs us) (d:ts[j]? =some J) (f:us[j]? =some K) (w:J'.i=J.i) (E:K'.i=K.i) (O:K'.u=K.u) (F:K'.T=J'.T) (x:J'.T.ended=J.T.ended) (Z:K'.us.length<=K.us.length+1):Lk S s (N+1) ss (ts.set j J') rs (us.set j K'):=by
 obtain⟨U,W⟩:=h.tg j J K d f;refine⟨h.sl,h.sg,by rw [List.length_set,List.length_set];exact h.tl,λn A B a l=>?_,h.inv.more (by omega),λi I R X g=>?_,λR g=>by have:=h.cs R g;omega,λi R B g l k G=>?_,h.rf⟩
 .rcases du d a with ⟨P,rfl⟩|⟨H,a⟩<;> rcases du f l with ⟨Q,rfl⟩|⟨L,l⟩
  .exact⟨by rw [E,w,U],F⟩
  .exact absurd P L
  .exact absurd Q H
  .exact h.tg n A B a l
 .have b:∀(n:Nat) (A:PT),(ts.set j J')[n]? =some A->∃c,ts[n]? =some c/\c.i=A.i/\c.T.ended=A.T.ended:=λn A a=>by
   rcases du d a with ⟨rfl,rfl⟩|⟨H,a⟩
   .exact⟨J,d,w.symm,x.symm⟩
   .exact⟨A,a,rfl,rfl⟩
  rcases h.now i I R X g with ⟨o,p,q⟩|⟨n,A,B,o,p,q,C,D,M⟩
  .refine .inl ⟨o,p,λn A a k=>?_⟩;obtain⟨c,r,t,v⟩:=b n A a;rw [<-v];exact q n c r (by rw [t];exact k)
  .have rest:∀(m:Nat) (A':PT),(ts.set j J')[m]? =some A'->A'.i=i->m≠n->A'.T.ended=true:=λm A' y k dM=>by
    obtain⟨c,r,t,v⟩:=b m A' y;rw [<-v];exact M m c r (by rw [t];exact k) dM
   by_cases e:n=j
   .subst e;obtain rfl:A=J:=Option.some.inj (o.symm.trans d);obtain rfl:B=K:=Option.some.inj (p.symm.trans f);exact .inr ⟨n,J',K',rR ((mS.1 d).1),rR ((mS.1 f).1),by rw [w];exact q,by rw [O];exact C,by rw [x];exact D,rest⟩
   .exact .inr ⟨n,A,B,by rw [su (λh=>e h.symm)];exact o,by rw [su (λh=>e h.symm)];exact p,q,C,D,rest⟩
 .obtain⟨n,Y⟩:=List.mem_iff_getElem?.1 l;rcases du f Y with ⟨_,rfl⟩|⟨L,z⟩
  .have:=h.ct i R K g (gB f) (by rw [<-E];exact k) (by rw [W,<-x,<-F];exact G);omega
  .have:=h.ct i R B g (gB z) k G;omega
def PW.LC (h:PW w F P p s S c ss ts) (b:ss[J.i]? =some I) (d:ts[j]? =some J) (nX:w'.heap[J.t]? =some (.cells (B4 I.q J.n T') 98 (0,0))) (ny:Ch w' J.n T'.puts) (po:∀x∈T'.puts,x.1<I.G.y.blocks) (e:aa (λg=>g=J.t\/g=J.n) w w'):PW w' F P p s S c ss (ts.set j {J with T:=T'}):=by
 have:=h.on b d rfl rfl (λg a=> .inl a) ((h.Fc b).abn (h.LA d b) e) nX ny po (e.mono (λg a=>by rcases a with a|a;exact .inr (.inr (.inr (.inr (.inl a))));exact .inr (.inr (.inr (.inr (.inr a))))));rwa [mR b] at this
end
end
section
def gk {f:α->Value} {l:List α} {a b:α} (c:l[i]? =some a) (h:f b=f a):(l.set i b).map f=l.map f:=by
 rw [List.map_set];apply List.ext_getElem?;intro n;by_cases e:n=i
 .subst e;rw [rR (by simpa using ((mS.1 c).1)),BE,c,h];rfl
 .rw [su (λh=>e h.symm)]
def RW.LC {w w':World} {F X X':Nat->Prop} {r s:Nat} {S:DS} {rs:List RI} {us:List RJ} {R:RI} {K K':RJ} (h:RW w F X r s S rs us) (l:rs[K.i]? =some R) (o:us[j]? =some K) (E:K'.u=K.u) (t:K'.i=K.i) (z:∀g,X g->X' g) (m:∀g,X' g->more X w w' g) (nX:ou w' X' R.k K'.u R.G K'.T K'.tv K'.us) (n:K'.tv.ownBlock=K.tv.ownBlock\/∀g,K'.tv.ownBlock=some g->w.heap.size<=g) (v:aa (λg=>g=K.u\/K.tv.ownBlock=some g) w w') (bq:∀g,X' g->g<w'.heap.size):RW w' F X' r s S rs (us.set j K'):=by
 have f:=h.jU l;have d:=h.px o l;have Cj:∀g,X' g->¬F g:=λg b a=>by
  rcases m g b with y|y
  .exact h.fO g y a
  .have:=h.e.lt g a;omega
 have bj:iN w' F X' r s S R.k R.kl R.G R.pv R.ps R.hm R.nv:=by
  refine f.other v z Cj bq (λa=>?_) (λa=>?_) (λg e a=>?_) (λg c H b A a=>?_) (.inl rfl)
  .rcases a with a|a
   .exact db f.st d.tx (by decide) a
   .exact d.pl.ne a f.st (by decide) rfl
  .rcases a with a|a
   .exact db f.lp d.tx (by decide) a
   .exact d.pl.ne a f.lp (by decide) rfl
  .rcases a with a|a
   .exact f.pl.ne e d.tx (by decide) a
   .exact h.r3 R (gB l) K (gB o) g e a
  .have BR:=A;obtain⟨cur,C,_⟩:=BR;rcases a with a|a
   .exact A.ne d.tx (by decide) a
   .exact d.pl.ne a C (by decide) rfl
 have D:=h.e.aw v (λg b a=>by
  rcases a with a|a
  .exact h.fO g (a▸d.xt) b
  .exact h.fO g (d.pl.row g a) b)
 have:=h.on (I':=R) (J':=K') l o rfl rfl rfl rfl E t D z m bj nX (.inl rfl) n (λg x p=>by
  rcases n with q|q
  .rw [q] at p;exact h.r3 R (gB l) K (gB o) g x p
  .have:=q g p;have:=f.pl.rlt g x;omega) (v.mono (λg b=>by rcases b with b|b;exact .inr (.inr (.inr (.inl b)));exact .inr (.inr (.inr (.inr (.inr b)))))) (.inl rfl)
 rwa [mR l] at this
section
variable {w w':World} {q:Nat} {F P F2 X O A:Nat->Prop} {p r s c N:Nat} {S:DS} {v1 v2 v3 v4:Value} {ss:List PI} {ts:List PT} {rs:List RI} {us:List RJ}
end
end
section
section
variable {s N M i j:Nat} {S S':DS} {ss:List PI} {ts:List PT} {rs:List RI} {us:List RJ} {I I':PI} {R R':RI} {J J':PT} {K K':RJ}
def Lk.upd (h:Lk S s N ss ts rs us) (Q:ss[i]? =some I) (r:rs[i]? =some R) (f:ts[j]? =some J) (U:us[j]? =some K) (P9:J.i=i) (e1:J'.i=J.i) (e2:K'.i=K.i) (e3:K'.u=K.u) (e4:K'.T=J'.T) (e5:R'.G=I'.G) (e6:R'.nv=R.nv)
    (lO:(J'.T.ended=J.T.ended/\I'.G.busy=I.G.busy)\/(J.T.ended=false/\J'.T.ended=true/\I'.G.busy=false)) (hM:N<=M) (W:V.Inv S' s ((ss.set i I').map (λI=>I.G.L)) M) (mv:R'.ps.length<=M) (Wo:J'.T.ended=false->R'.ps.length+K'.us.length<=M) (DT:R'.ps=R.ps\/J.T.ended=false) (Fd:S'.refused=S.refused):
  Lk S' s M (ss.set i I') (ts.set j J') (rs.set i R') (us.set j K'):=by
 have Li:=(mS.1 Q).1;have rO:=(mS.1 r).1;obtain⟨g1,g2⟩:=h.tg j J K f U;have O:∀(n:Nat) (A:PT),(ts.set j J')[n]? =some A->n≠j->ts[n]? =some A:=λn A d dM=>by
  rcases du f d with ⟨e,_⟩|⟨_,d⟩
  .exact absurd e dM
  .exact d
 refine⟨by rw [List.length_set,List.length_set];exact h.sl,λn A B d c=>?_,by rw [List.length_set,List.length_set];exact h.tl,λn A B d c=>?_,W,λn A B d c=>?_,λB c=>?_,λn B C c k a Z=>?_,Fd.trans h.rf⟩
 .rcases du Q d with ⟨E,rfl⟩|⟨z,d⟩<;> rcases du r c with ⟨P,rfl⟩|⟨v,c⟩
  .exact e5
  .exact absurd E v
  .exact absurd P z
  .exact h.sg n A B d c
 .rcases du f d with ⟨E,rfl⟩|⟨z,d⟩<;> rcases du U c with ⟨P,rfl⟩|⟨v,c⟩
  .exact⟨by rw [e2,e1,g1],e4⟩
  .exact absurd E v
  .exact absurd P z
  .exact h.tg n A B d c
 .rcases du Q d with ⟨E,rfl⟩|⟨z,hA'⟩<;> rcases du r c with ⟨P,rfl⟩|⟨v,x⟩
  .subst E;rcases h.now n I R Q r with ⟨p,q,b⟩|⟨m,C,D,p,q,b,F,H,t⟩
   .have l:=b j J f P9;rcases lO with ⟨g,w⟩|⟨g,_,_⟩
    .refine .inl ⟨e6.trans p,w.trans q,λm C k a=>?_⟩;rcases du f k with ⟨_,rfl⟩|⟨_,k⟩
     .rw [g];exact l
     .exact b m C k a
    .rw [l] at g;cases g
   .by_cases e:m=j
    .subst e;obtain rfl:C=J:=Option.some.inj (p.symm.trans f);obtain rfl:D=K:=Option.some.inj (q.symm.trans U);refine .inr ⟨m,J',K',rR ((mS.1 f).1),rR ((mS.1 U).1),by rw [e1];exact b,by rw [e6,e3];exact F,?_,λy A' LD a dM=>t y A' (O y A' LD dM) a dM⟩;rcases lO with ⟨g,w⟩|⟨_,w,b3⟩
     .rw [g,w];exact H
     .rw [w,b3];rfl
    .have l:=t j J f P9 (λh=>e h.symm);rcases lO with ⟨g,w⟩|⟨g,_,_⟩
     .refine .inr ⟨m,C,D,by rw [su (λh=>e h.symm)];exact p,by rw [su (λh=>e h.symm)];exact q,b,e6.trans F,by rw [w];exact H,λy A' LD a dM=>?_⟩;rcases du f LD with ⟨_,rfl⟩|⟨_,LD⟩
      .rw [g];exact l
      .exact t y A' LD a dM
     .rw [l] at g;cases g
  .exact absurd E v
  .exact absurd P z
  .have Y:∀(m:Nat) (C:PT),(ts.set j J')[m]? =some C->C.i=n->ts[m]? =some C:=λm C k a=>by
    rcases du f k with ⟨_,rfl⟩|⟨_,k⟩
    .rw [e1,P9] at a;exact absurd a.symm z
    .exact k
   rcases h.now n A B hA' x with ⟨p,q,b⟩|⟨m,C,D,p,q,b,F,H,t⟩
   .exact .inl ⟨p,q,λm C k a=>b m C (Y m C k a) a⟩
   .have dM:m≠j:=λe=>by
     subst e;obtain rfl:C=J:=Option.some.inj (p.symm.trans f);rw [P9] at b;exact z b.symm
    exact .inr ⟨m,C,D,by rw [su (λh=>dM h.symm)];exact p,by rw [su (λh=>dM h.symm)];exact q,b,F,H,λy A' LD a X=>t y A' (Y y A' LD a) a X⟩
 .obtain⟨n,X⟩:=List.mem_iff_getElem?.1 c;rcases du r X with ⟨_,rfl⟩|⟨_,X⟩
  .exact mv
  .have:=h.cs B (gB X);omega
 .obtain⟨m,hm⟩:=List.mem_iff_getElem?.1 k;rcases du U hm with ⟨ek,rfl⟩|⟨nk,hm'⟩
  .rcases du r c with ⟨_,rfl⟩|⟨v,_⟩
   .exact Wo (by rw [<-e4];exact Z)
   .rw [e2,g1,P9] at a;exact absurd a.symm v
  .rcases du r c with ⟨rfl,rfl⟩|⟨v,x⟩
   .rcases DT with DT|DT
    .have:=h.ct n R C r (gB hm') a Z;rw [DT];omega
    .exfalso;have Cs:m<ts.length:=(by rw [<-h.tl];exact(mS.1 hm').1);have hD:=qQ Cs;obtain⟨f1,f2⟩:=h.tg m _ C hD hm';have hDe:ts[m].T.ended=false:=(by rw [<-f2];exact Z);have hDi:ts[m].i=n:=(by rw [<-f1];exact a);rcases h.now n I R Q r with ⟨_,_,b⟩|⟨o,A,B,p,q,b,F,H,t⟩
     .have:=b j J f P9;rw [DT] at this;cases this
     .by_cases eo:o=j
      .subst eo;have:=t m _ hD hDi nk;rw [hDe] at this;cases this
      .have:=t j J f P9 (λh=>eo h.symm);rw [DT] at this;cases this
   .have:=h.ct n B C x (gB hm') a Z;omega
end
end
section
def RW.reG {w:World} {F X:Nat->Prop} {r s:Nat} {S:DS} {rs:List RI} {us:List RJ} {R:RI} (h:RW w F X r s S rs us) (m:rs[i]? =some R) (p:G'.y=R.G.y) (t:G'.L=R.G.L) (H:G'.ov=R.G.ov):RW w F X r s S (rs.set i {R with G:=G'}) us:=by
 have d:=h.jU m;have o:∀{n:Nat} {A:RI},(rs.set i {R with G:=G'})[n]? =some A->∃q,rs[n]? =some q/\q.pv=A.pv:=λ{n A} j=>by
  rcases du m j with ⟨rfl,rfl⟩|⟨_,j⟩
  .exact⟨R,m,rfl⟩
  .exact⟨A,j,rfl⟩
 refine⟨h.e,h.fO,h.lt,λA D=>?_,λK O=>?_,by rw [nj (f:=λx:RI=>x.k) (b:={R with G:=G'}) m rfl];exact h.nk,by rw [nj (f:=λx:RI=>x.kl) (b:={R with G:=G'}) m rfl];exact h.nl,h.nu,λa b A B P Q oN g z C=>?_,h.r2,λA D B N g z C=>?_⟩
 .obtain⟨n,j⟩:=List.mem_iff_getElem?.1 D;rcases du m j with ⟨_,rfl⟩|⟨_,j⟩
  .exact⟨by show lx _ _ _ _ G'.y _ _ _;rw [p];exact d.st,by show cM _ _ _ G'.L;rw [t];exact d.lp,d.pl,d.xk,d.xl,d.fO,d.lt,by show G'.L.Ok s;rw [t];exact d.lk,by show G'.L.begun=true;rw [t];exact d.bg,by show G'.y.home+G'.y.blocks<=s;rw [p];exact d.hs,by show G'.L.f+2+G'.L.n<=G'.y.home;rw [t,p];exact d.lh,by show G'.ov=_;rw [H];exact d.ov,d.hm,by show∀x∈R.ps,x.1<G'.y.blocks;rw [p];exact d.kb,by show G'.L.dead S=false->∀b,b<G'.y.blocks->CM.get G'.ov b=none->∀c,jC R.ps b=some c->S.now (G'.y.home+b)=c;rw [t,p,H];exact d.un⟩
  .exact h.jU j
 .obtain⟨M,E,l⟩:=h.tx K O;by_cases e:K.i=i
  .rw [e,m] at E;cases E;exact⟨{R with G:=G'},by rw [e];exact rR ((mS.1 m).1),⟨l.tx,l.xt,l.pl,l.nd,l.pu,by show∀x∈K.us,x.1<G'.y.blocks;rw [p];exact l.kb,l.Ez⟩⟩
  .exact⟨M,by rw [su (λh=>e h.symm)];exact E,l⟩
 .obtain⟨q,u,v⟩:=o P;obtain⟨T,I,J⟩:=o Q;exact h.r1 _ _ _ _ u I oN g (v▸z) (J▸C)
 .obtain⟨n,j⟩:=List.mem_iff_getElem?.1 D;obtain⟨q,u,v⟩:=o j;exact h.r3 q (gB u) B N g (v▸z) C
section
variable {w w':World} {q:Nat} {F P F2 X O A:Nat->Prop} {p r s c N:Nat} {S:DS} {v1 v2 v3 v4:Value} {ss:List PI} {ts:List PT} {rs:List RI} {us:List RJ}
end
end
section
section
variable {w w':World} {q:Nat} {F P F2 X O A:Nat->Prop} {p r s c N:Nat} {S:DS} {v1 v2 v3 v4:Value} {ss:List PI} {ts:List PT} {rs:List RI} {us:List RJ}
def AW (h:W5 w q F P F2 X O p r s S S c v1 v2 v3 v4 ss ts rs us) (Q:Lk S s N ss ts rs us) (_hA:∀g,(F g\/P g\/F2 g\/X g\/O g)->A g) (mw:∀g,A g->g<w.heap.size) (h1:ss.length<=N) (Z:ts.length<=N) (_hc:c<=5000*N) (hN:N<=3999999990000) (b f n:Int) (t:Option Addr) (v u:Nat) (H:Option Addr) (K J:Nat) (x y z:Int) (AX:b<=9223372036854775807):
  Calls prog 31 #[pV q, .agg (jG 12 b f n t v u H K J x y z)] w λe w'=>e= .returned (.bool true)/\bW w w':=by
 obtain⟨W,d⟩:=bP (w.alloc (.cells (jG 12 b f n t v u H K J x y z) 41));have E8:bW w W:=by rw [d];exact(bi w.heap.size w).alloc (bR _) _
 have Ci:W.heap[w.heap.size]? =some (.cells (jG 12 b f n t v u H K J x y z) 41 (0,0)):=by rw [d];exact heap_alloc_new _ _
 have Il:W.heap.size=w.heap.size+1:=by rw [d,World.size_alloc]
 have uv:¬A w.heap.size:=λhx=>by have:=mw _ hx;omega
 obtain⟨a3,c3,E⟩:=AV h.o1;have TX:=h.later E8;have d0:W.cell? (aD w.heap.size 0)=some (iV 12):=aM Ci;have d1:W.cell? (aD w.heap.size 1)=some (iV b):=bG Ci;have l:=TX.c2;have tF:=λk=>AU (W.drewN k) ss.length b AX (by omega);obtain⟨L,o,De,MT⟩:=cP TX Q E8 Ci;rw [E] at l;clear h Q TX E8 Ci;go_in;go_wp2_with fail;rw [<-d];clear d;go_quiet (first|(go_at_call 73;refine Calls.quiet_of_same (tF _)));rename_i nq _;have m:bW W (W.drewN nq):=below_drewN (bi _ _) nq;have fT:=(L.later m);have uS:=(De.trans (m.mono (by omega)));have YC:(W.drewN nq).heap.size=w.heap.size+1:=Il;have U8:=((m.block w.heap.size (by omega)).trans MT);clear L De MT tF m d0 d1 l Il;generalize W.drewN nq=V at*;have dV0:V.cell? (aD w.heap.size 0)=some (iV 12):=aM U8;have dV2:V.cell? (aD w.heap.size 2)=some (iV f):=bM U8;have l:=fT.c2;have e5:=fT.c3;by_cases T:ss.length=0
 .have fR:bk ss.length b= -1:=by unfold bk;rw [aG T]
  rw [fR];go_wp2;go_ret;exact⟨rfl,uS⟩
 .obtain⟨j,M,YJ⟩:=TW (show 0<ss.length by omega) b;rw [YJ];have Zt:¬(j:Int)<0:=by omega
  have Y0:(j:Int)<(ss.length:Int):=by omega
  obtain⟨I,C⟩:∃I,ss[j]? =some I:=⟨ss[j],qQ M⟩;obtain⟨R,D⟩:∃R,rs[j]? =some R:=⟨rs[j]'(by rw [o.sl];exact M),qQ _⟩;obtain⟨g3,cp3,TY,t3⟩:=wi (i:=j) fT.o1 (by rw [BE,C];rfl);obtain⟨g4,cp4,TZ,t4⟩:=wi (i:=j) fT.o2 (by rw [BE,D];rfl);rw [TY] at l;rw [TZ,o.sl] at e5;clear YJ T;have OQ:=(λ(a:World) (hb:bW V a)=>((fT.later hb).rw.jU D).st);go_wp2_with fail;refine(KZ (fT.pw.Fc C).st).mono ?_;rintro e a ⟨rfl,bd⟩;have br:=OQ a bd;rw [(o.sg j I R C D)] at br;have ir:=aJ a (.cells #[.int .i64 (I.G.y.log:Int), .int .i64 (I.G.y.home:Int), .int .i64 (I.G.y.blocks:Int), .int .i64 (I.G.y.nodes:Int), .int .i64 (I.G.y.data:Int)] 86);have Mr:=heap_alloc_new a (.cells #[.int .i64 (I.G.y.log:Int), .int .i64 (I.G.y.home:Int), .int .i64 (I.G.y.blocks:Int), .int .i64 (I.G.y.nodes:Int), .int .i64 (I.G.y.data:Int)] 86);have fM:=br.later ir;have dZ:=(bd.trans (ir.mono bd.size));clear bd br;go_wp2_with fail;generalize a.alloc (.cells #[.int .i64 (I.G.y.log:Int), .int .i64 (I.G.y.home:Int), .int .i64 (I.G.y.blocks:Int), .int .i64 (I.G.y.nodes:Int), .int .i64 (I.G.y.data:Int)] 86)=Y at*;have U:((λw':World=>w'.cell? (aD a.heap.size 0)=some (iV (I.G.y.log:Int))/\w'.cell? (aD a.heap.size 1)=some (iV (I.G.y.home:Int))/\w'.cell? (aD a.heap.size 2)=some (iV (I.G.y.blocks:Int))/\w'.cell? (aD a.heap.size 3)=some (iV (I.G.y.nodes:Int))/\w'.cell? (aD a.heap.size 4)=some (iV (I.G.y.data:Int))/\w'.cell? (aD R.k 2)=some (iV (I.G.y.log:Int))/\w'.cell? (aD R.k 3)=some (iV (I.G.y.home:Int))/\w'.cell? (aD R.k 4)=some (iV (I.G.y.blocks:Int))/\w'.cell? (aD R.k 5)=some (iV (I.G.y.nodes:Int))/\w'.cell? (aD R.k 6)=some (iV (I.G.y.data:Int))) Y):=⟨aM Mr,bG Mr,bM Mr,fU Mr,gH Mr,fM.c2,fM.c3,fM.c4,fM.c5,fM.c6⟩;clear fM ir Mr;go_region_held3 (λw'=>w'.cell? (aD a.heap.size 0)=some (iV (I.G.y.log:Int))/\w'.cell? (aD a.heap.size 1)=some (iV (I.G.y.home:Int))/\w'.cell? (aD a.heap.size 2)=some (iV (I.G.y.blocks:Int))/\w'.cell? (aD a.heap.size 3)=some (iV (I.G.y.nodes:Int))/\w'.cell? (aD a.heap.size 4)=some (iV (I.G.y.data:Int))/\w'.cell? (aD R.k 2)=some (iV (I.G.y.log:Int))/\w'.cell? (aD R.k 3)=some (iV (I.G.y.home:Int))/\w'.cell? (aD R.k 4)=some (iV (I.G.y.blocks:Int))/\w'.cell? (aD R.k 5)=some (iV (I.G.y.nodes:Int))/\w'.cell? (aD R.k 6)=some (iV (I.G.y.data:Int))) (exact U) (fail);go_wp2;go_ret;exact⟨by simp,uS.trans (dZ.drew.mono uS.size)⟩
end
end
section
def Po {S:DS} {s:Nat} (dw:S.Ok s) (L M:LG) (h:M.dead (L.sync S s).2=false):M.dead S=false/\∀j,j<s->(L.sync S s).2.now j=S.now j:=by
 unfold LG.sync at*;split at h
 .rename_i q;rw [aG q];exact⟨h,λ_ _=>rfl⟩
 .rename_i q;rw [aB q];refine⟨?_,λj b=>fa dw b⟩;have a:=V.jO h;rw [fZ] at a;unfold LG.dead;simp [(V.jO (V.kq (Decidable.of_not_not q)).1).2,a.1]
def Lk.T0 {S S':DS} {s N:Nat} {b:List PI} {d:List PT} {rs:List RI} {us:List RJ} (h:Lk S s N b d rs us) (c:N<=M) (a:V.Inv S' s (b.map (λI=>I.G.L)) M) (Fd:S'.refused=S.refused):Lk S' s M b d rs us:=⟨h.sl,h.sg,h.tl,h.tg,a,h.now,λR k=>k9 (h.cs R k) c,λi R K e f g j=>k9 (h.ct i R K e f g j) c,Fd.trans h.rf⟩
def Lk.synced {S:DS} {s N:Nat} {a:List PI} {c:List PT} {rs:List RI} {us:List RJ} {I:PI} (h:Lk S s N a c rs us) (d:a[j]? =some I):Lk (I.G.L.sync S s).2 s (N+2) a c rs us:=by
 have b:(a.map (λI=>I.G.L))[j]? =some I.G.L:=by rw [BE,d];rfl
 have:=h.inv.sync b;rw [mR b] at this;exact h.T0 (by omega) (this.more (by omega)) (Fb _ _ _)
section
variable {w w':World} {q:Nat} {F P F2 X O A:Nat->Prop} {p r s c N:Nat} {S:DS} {v1 v2 v3 v4:Value} {ss:List PI} {ts:List PT} {rs:List RI} {us:List RJ}
end
end
section
def AY {S:DS} {s:Nat} (dw:S.Ok s) (d:∀q∈G.ov,G.y.home+q.1<s/\q.2.length=512):(G.check S s).2.1.life=S.life:=by
 obtain⟨c,a,_⟩:=qG (L:=G.L) dw;obtain⟨_,b,_,_,_⟩:=eE (h0:=G.y.home) (ms:=G.ov) c d;have S9:=Dm G.L (aE (G.L.sync S s).2 s G.y.home G.ov).2 s;unfold SG.check;split
 .exact a
 .split
  .exact b.trans a
  .split
   .exact S9.1.trans (b.trans a)
   .exact S9.1.trans (b.trans a)
def AZ (G:SG) (S:DS) (s:Nat):(G.check S s).2.2.busy=G.busy:=by
 unfold SG.check;split
 .rfl
 .split
  .rfl
  .split <;> rfl
def IK {S:DS} {s t i:Nat} (h:V.Inv S s ls t) (g:ls[i]? =some G.L) (d:∀q∈G.ov,G.y.home+q.1<s/\q.2.length=512):(G.check S s).2.1=S\/∀n M,ls[n]? =some M->n≠i->M.dead (G.check S s).2.1=true:=by
 by_cases b:G.L.bm S=0
 .refine .inr (λn M a dM=>?_);obtain⟨hd,_⟩:=V.kq b;obtain⟨f,_⟩:=V.jO hd;cases j:M.dead (G.check S s).2.1
  .have c:=(V.jO j).1;rw [AY h.ok d] at c;exact absurd (V.qq h.li g a (c.trans f.symm)) dM
  .rfl
 .refine .inl ?_;have e:G.L.sync S s=(G.L.bm S,S):=by unfold LG.sync;rw [aG b]
  unfold SG.check;rw [e,aG b]
section
variable {s N M i:Nat} {S S':DS} {ss:List PI} {ts:List PT} {rs:List RI} {us:List RJ} {I I':PI} {R R':RI}
def Lk.akC (h:Lk S s N ss ts rs us) (j:ss[i]? =some I) (c:rs[i]? =some R) (t:R'.G=I'.G) (u:R'.nv=R.nv) (v:I'.G.busy=I.G.busy) (o:R'.ps=R.ps) (f:N<=M) (e:V.Inv S' s ((ss.set i I').map (λI=>I.G.L)) M) (Fd:S'.refused=S.refused):Lk S' s M (ss.set i I') ts (rs.set i R') us:=by
 refine⟨by rw [List.length_set,List.length_set];exact h.sl,λn A B b a=>?_,h.tl,h.tg,e,λn A B b a=>?_,λB a=>?_,λn B C a p r q=>?_,Fd.trans h.rf⟩
 .rcases du j b with ⟨d,rfl⟩|⟨l,b⟩<;> rcases du c a with ⟨g,rfl⟩|⟨m,a⟩
  .exact t
  .exact absurd d m
  .exact absurd g l
  .exact h.sg n A B b a
 .rcases du j b with ⟨d,rfl⟩|⟨l,b⟩<;> rcases du c a with ⟨g,rfl⟩|⟨m,a⟩
  .rw [u,v,d];exact h.now i I R j c
  .exact absurd d m
  .exact absurd g l
  .exact h.now n A B b a
 .obtain⟨n,k⟩:=List.mem_iff_getElem?.1 a;rcases du c k with ⟨_,rfl⟩|⟨_,k⟩
  .rw [o];exact k9 (h.cs R (gB c)) f
  .exact k9 (h.cs B (gB k)) f
 .rcases du c a with ⟨d,rfl⟩|⟨_,a⟩
  .rw [o];exact k9 (h.ct i R C c p (r.trans d) q) f
  .exact k9 (h.ct n B C a p r q) f
end
def Dw {S:DS} (h:L.bm S=0):L.dead S=false/\L.begun=true:=V.kq h
def LE {S:DS} (h:L.dead S=false):L.life=S.life/\S.fuse≠0:=V.jO h
section
variable {w w':World} {q:Nat} {F P F2 X O A:Nat->Prop} {p r s c N:Nat} {S:DS} {v1 v2 v3 v4:Value} {ss:List PI} {ts:List PT} {rs:List RI} {us:List RJ}
end
end
section
def IL {S:DS} {s:Nat} (a:L.Ok s):(L.append S s d).2.1.life=S.life:=by
 have c:=a.n1;obtain⟨b,_,_,_⟩:=mI (L:=L) (S:=S) (s:=s) (d:=d) (by omega) a.s (di d.length);unfold LG.append;split
 .rfl
 .split <;> exact b
def IM (G:SG) (S:DS) (s:Nat) (c:CM):(G.bK S s c).2.2.busy=G.busy:=by
 have a:(G.made S s (cw c).length).2.2.busy=G.busy:=by
  unfold SG.made;split
  .rfl
  .exact AZ G S s
 unfold SG.bK;split
 .rfl
 .split
  .exact a
  .split <;> exact a
section
variable {G:SG} {T:TG} {S:DS} {s t i:Nat} {ls:List LG} {c:CM}
def IN (h:V.Inv S s ls t) (b:ls[i]? =some G.L) (g:G.L.begun=true) (a:∀q∈G.ov,G.y.home+q.1<s/\q.2.length=512/\Bytes q.2) (Yt:G.ov.length<=2048) (B8:G.L.f+2+G.L.n<=G.y.home):(G.bK S s c).2.1.life=S.life:=by
 have d:V.Inv (G.made S s (cw c).length).2.1 s (ls.set i (G.made S s (cw c).length).2.2.L) t:=by
  unfold SG.made;split
  .exact h.same b
  .exact h.check b g a Yt B8
 have Cs:(G.made S s (cw c).length).2.1.life=S.life:=by
  unfold SG.made;split
  .rfl
  .exact AY h.ok (λq e=>⟨(a q e).1,(a q e).2.1⟩)
 have dw:=(d.at (rR ((mS.1 b).1))).1;unfold SG.bK;split
 .rfl
 .split
  .exact Cs
  .split <;> exact(IL dw).trans Cs
def Cl (h:V.Inv S s ls t) (d:ls[i]? =some G.L) (l:G.L.begun=true) (j:∀q∈G.ov,G.y.home+q.1<s/\q.2.length=512/\Bytes q.2) (Yt:G.ov.length<=2048) (B8:G.L.f+2+G.L.n<=G.y.home) (o:∀q∈T.puts,Bytes q.2) (k:T.state G S=0):
    (T.bK G S s).2.2.1.y=G.y/\V.Inv (T.bK G S s).2.1 s (ls.set i (T.bK G S s).2.2.1.L) t/\((T.bK G S s).2.1=S\/∀n M,ls[n]? =some M->n≠i->M.dead (T.bK G S s).2.1=true)/\T.ended=false/\
     (((T.bK G S s).2.2.2=T/\(T.bK G S s).2.2.1.busy=G.busy)\/((T.bK G S s).2.2.2=T.close/\(T.bK G S s).2.2.1.busy=false)):=by
 have hd:=As k;have a:T.ended=false:=by
  unfold TG.state TG.bU at k;cases a:T.ended
  .rfl
  .rw [hd,a] at k;simp at k
 obtain⟨m,_⟩:=V.jO hd;have b:=h.WT (c:=T.news G S) d l j Yt B8 (λq p=>o q (G8 p));have Tb:∀n M,ls[n]? =some M->n≠i->M.dead (G.bK S s (T.news G S)).2.1=true:=λn M e dM=>by
  cases r:M.dead (G.bK S s (T.news G S)).2.1
  .have g:=(V.jO r).1;rw [(IN (c:=T.news G S) h d l j Yt B8)] at g;exact absurd (V.qq h.li d e (g.trans m.symm)) dM
  .rfl
 unfold TG.bK;rw [aB (λh=>h k)];split
 .exact⟨rfl,h.same d, .inl rfl,a, .inr ⟨rfl,rfl⟩⟩
 .split
  .exact⟨Ar _ _ _ _,b, .inr Tb,a, .inl ⟨rfl,IM _ _ _ _⟩⟩
  .exact⟨Ar _ _ _ _,b, .inr Tb,a, .inr ⟨rfl,rfl⟩⟩
end
section
variable {w w':World} {F X:Nat->Prop} {p r s cR q l m t n k kl hm:Nat} {S:DS} {G:SG} {T:TG} {pv nv tv:Value} {ps us:List (Nat×List Int)}
def Pp (h:iw w F p s cR q l m S G) (b:mL w F q l m t n G T) (k:T.state G S≠0):
  Calls prog 88 #[pQ t] w λe w'=>e= .returned (iV (T.state G S))/\bW w w':=by
 have a:=nV h b;generalize T.state G S=E at*;have d:(E != 0)=true:=by rw [gg];exact k
 clear k h b;go_in;go_wp2_with fail;refine bJ a λw1 ar=>?_;have c:=yh ar;clear a ar;go_wp2;go_ret;exact⟨rfl,c.o⟩
def LF (hd:aC w F r s S) (h:iN w F X r s S k kl G pv ps hm nv) (b:ou w X k t G T tv us) (kk:T.state G S≠0):
  Calls prog 89 #[pQ t] w λe w'=>e= .returned (iV (T.state G S))/\bW w w':=by
 have a:=ku hd h b.tx;generalize T.state G S=E at*;have d:(E != 0)=true:=by rw [gg];exact kk
 clear kk h b hd;go_in;go_wp2_with fail;refine bJ a λw1 ar=>?_;have c:=yh ar;clear a ar;go_wp2;go_ret;exact⟨rfl,c.o⟩
end
end
section
def akD {t:TypeId} (a:(prog.info? e).map (λi=>(i.zero,i.size,i.bytes))=some (some (.pointer none),1,8)) (f:prog.underlying t=some (.slice e)) (be:W.ownsRow 0 e 1 v k vs) (x:Value) (j:x.oneCell'=true) (m:(k+1)*8<=140737488355328):
  ∃g cap w',(Builtin.append_ #[t,t] t #[v, .slice (some (aD W.heap.size 0)) 1 1]).run prog (W.alloc (.cells #[x] e))= .ok (.slice (some (aD g 0)) (k+1) cap) w'/\w'.ownsRow 0 e 1 (.slice (some (aD g 0)) (k+1) cap) (k+1) (vs ++ [x])/\(W.alloc (.cells #[x] e)).grownBy w' v.ownBlock/\(v.ownBlock=some g\/g=W.heap.size+1)/\g<w'.heap.size:=by
 obtain⟨l,d,gC,dE,em⟩:=info_parts a;exact run_append_lies (P:=prog) (W.alloc (.cells #[x] e)) t t 0 e l (.pointer none) 1 8 f d gC dE em rfl (by decide) v k vs (dS be (λg c=>by
   obtain⟨cur,b⟩:=bB be c;exact Below.heap_alloc _ _ _ (aq b))) (aD W.heap.size 0) 1 1 [x] rfl (World.news_of_block (cs:= #[x]) (t:=e) (fr:=(0,0)) (heap_alloc_new W _)) (by simpa using j) (by omega) (by unfold maxLen;omega) (by omega) (by simp) _ (by simp)
section
variable {w w2:World} {q:Nat} {F P F2 X O P' X':Nat->Prop} {p r s c:Nat} {S S2:DS} {v1 v2 v3 v4 u1 u2 u3 u4:Value} {ss TV:List PI} {ts Xw:List PT} {rs Bw:List RI} {us K1:List RJ}
def ph {b c:TypeId} {u:Value} {m:Nat} {o:List Value} {cs:Array Value} {z:Nat×Nat} (g:w.ownsRow 0 b 1 u n xs) (i:w.ownsRow 0 c 1 v m o) (j:w.heap[q]? =some (.cells cs f z)) (k:b≠c) (l:b≠f) (e:u.ownBlock=some x):¬(v.ownBlock=some x\/x=q):=λa=>by
 obtain⟨cur,d⟩:=bB g e;rcases a with a|a
 .obtain⟨adg,BP⟩:=bB i a;exact db d BP k rfl
 .exact db d j l a
def W5.grow (h:W5 w q F P F2 X O p r s S S2 c v1 v2 v3 v4 ss ts rs us) {t:TypeId} (j:Nat) (A:(Tryz.prog.info? e).map (λi=>(i.zero,i.size,i.bytes))=some (some (.pointer none),1,8)) (G:Tryz.prog.underlying t=some (.slice e)) (y:w.ownsRow 0 e 1 v k vs) (z:∀g,v.ownBlock=some g->O g) (dM:e≠35) (l:Nat) (f:(k+1)*8<=140737488355328):
  ∃g a w1 w2,(Builtin.append_ #[t,t] t #[v, .slice (some (aD w.heap.size 0)) 1 1]).run Tryz.prog (w.alloc (.cells #[pV l] e))= .ok (.slice (some (aD g 0)) (k+1) a) w1/\w1.heap[q]? =some (.cells (U7 p r v1 v2 v3 v4) 35 (0,0))/\w2=w1.setCell ⟨q,j,none⟩ (.slice (some ⟨g,0,none⟩) (k+1) a)/\w2.heap[q]? =some (.cells ((U7 p r v1 v2 v3 v4).setIfInBounds j (.slice (some ⟨g,0,none⟩) (k+1) a)) 35 (0,0))/\w2.ownsRow 0 e 1 (.slice (some (aD g 0)) (k+1) a) (k+1) (vs ++ [pV l])/\(∀x,(Value.slice (some (aD g 0)) (k+1) a).ownBlock=some x->more O w w2 x)/\aa (λg=>v.ownBlock=some g\/g=q) w w2/\aa O w w2:=by
 obtain⟨g,a,w1,bI,o,d,it,Vf⟩:=akD A G y (pV l) rfl f;have ir:=aJ w (.cells #[pV l] e);have eM:(w.alloc (.cells #[pV l] e)).heap.size=w.heap.size+1:=by simp
 have dE:w.heap.size+1<=w1.heap.size:=by have:=d.size;omega
 have fh:aa (λk=>v.ownBlock=some k) w w1:=by
  refine⟨d.os.trans ir.os,d.tape.trans ir.tape,d.output.trans ir.output,by omega,λk f E=>?_⟩;exact(d.block k (by omega) (λe=>E e.symm)).trans (ir.block k f)
 have m:∀k,v.ownBlock=some k->k≠q:=λk e=>by
  obtain⟨cur,C⟩:=bB y e;exact db C h.box dM
 have iO:=(fh.block q (h.py q h.oq) (λe=>m q e rfl)).trans h.box;obtain⟨w2,dN⟩:=bP (w1.setCell ⟨q,j,none⟩ (.slice (some ⟨g,0,none⟩) (k+1) a));have ez:aa (λk=>k=q) w1 w2:=by rw [dN];exact aL (F:=λk=>k=q) w1 rfl j _
 have aY:aa (λk=>v.ownBlock=some k\/k=q) w w2:=(fh.mono (λ_ h=> .inl h)).trans ez (λj D=> .inl (.inr D));have em:w2.heap.size=w1.heap.size:=by rw [dN];simp
 have n:g≠q:=by
  rcases it with it|it
  .exact m g it
  .have:=h.py q h.oq;omega
 refine⟨g,a,w1,w2,bI,iO,dN,by rw [dN];exact heap_setCell_same _ _ j _ _ _ iO,dS o (λx u=>?_),λx u=>?_,aY,aY.mono (λk f=>f.elim (z k) (λe=>e▸h.oq))⟩
 .have b:x=g:=by simpa [Value.ownBlock] using u.symm
  subst b;exact ez.block x Vf n
 .have b:x=g:=by simpa [Value.ownBlock] using u.symm
  subst b;exact it.elim (λe=> .inl (z x e)) (λe=> .inr ⟨by omega,by omega⟩)
def W5.mkP (h:W5 w q F P F2 X O p r s S S2 c v1 v2 v3 v4 ss ts rs us) (i:PW w F P' p s S c TV Xw) (f:∀g,P' g->¬(F2 g\/X g\/O g)) (Fe:aa O w w2) (j:w2.heap[q]? =some (.cells (U7 p r u1 v2 u3 v4) 35 (0,0))) (l:w2.ownsRow 0 53 1 u1 TV.length (TV.map (λI=>pV I.q))) (v:∀g,u1.ownBlock=some g->more O w w2 g) (m:w2.ownsRow 0 110 1 v2 rs.length (rs.map (λI=>pV I.k))) (n:w2.ownsRow 0 56 1 u3 Xw.length (Xw.map (λJ=>pV J.t))) (x:∀g,u3.ownBlock=some g->more O w w2 g) (o:w2.ownsRow 0 122 1 v4 us.length (us.map (λJ=>pV J.u))):W5 w2 q F P' F2 X (more O w w2) p r s S S2 c u1 v2 u3 v4 TV Xw rs us:=by
 refine⟨j, .inl h.oq,λk a=>a.elim (λa=>iL (h.py k a) Fe.size) (λh=>h.2),i.aw Fe (λk a b=>h.oa k b (.inl a)) (λk a b=>f k a (.inr (.inr b))),h.rw.aw Fe (λk a b=>h.od k b (.inl a)) (λk a b=>h.od k b (.inr a)),l,v,m,λg e=> .inl (h.q2 g e),n,x,o,λg e=> .inl (h.q4 g e),λk a b=>?_,λk a b=>?_,λk a b=>?_⟩
 .rcases a with a|a
  .exact h.ad k (.inl a) b
  .exact f k a (b.elim .inl (λb=> .inr (.inl b)))
 .rcases a with a|a <;> rcases b with b|b
  .exact h.oa k a (.inl b)
  .exact f k b (.inr (.inr a))
  .have:=h.pw.d.lt k b;omega
  .have:=i.lt k b;omega
 .rcases a with a|a
  .exact h.od k a b
  .rcases b with b|b
   .have:=h.rw.e.lt k b;omega
   .have:=h.rw.lt k b;omega
def W5.mkD (h:W5 w q F P F2 X O p r s S S2 c v1 v2 v3 v4 ss ts rs us) (i:RW w F2 X' r s S2 Bw K1) (f:∀g,X' g->¬(F g\/P g\/O g)) (Fe:aa O w w2) (j:w2.heap[q]? =some (.cells (U7 p r v1 u2 v3 u4) 35 (0,0))) (l:w2.ownsRow 0 53 1 v1 ss.length (ss.map (λI=>pV I.q))) (m:w2.ownsRow 0 110 1 u2 Bw.length (Bw.map (λI=>pV I.k))) (v:∀g,u2.ownBlock=some g->more O w w2 g) (n:w2.ownsRow 0 56 1 v3 ts.length (ts.map (λJ=>pV J.t))) (o:w2.ownsRow 0 122 1 u4 K1.length (K1.map (λJ=>pV J.u))) (x:∀g,u4.ownBlock=some g->more O w w2 g):W5 w2 q F P F2 X' (more O w w2) p r s S S2 c v1 u2 v3 u4 ss ts Bw K1:=by
 refine⟨j, .inl h.oq,λk b=>b.elim (λb=>iL (h.py k b) Fe.size) (λh=>h.2),h.pw.aw Fe (λk b a=>h.oa k a (.inl b)) (λk b a=>h.oa k a (.inr b)),i.aw Fe (λk b a=>h.od k a (.inl b)) (λk b a=>f k b (.inr (.inr a))),l,λg e=> .inl (h.q1 g e),m,v,n,λg e=> .inl (h.q3 g e),o,x,λk b a=>?_,λk b a=>?_,λk b a=>?_⟩
 .rcases a with a|a
  .exact h.ad k b (.inl a)
  .exact f k a (b.elim .inl (λb=> .inr (.inl b)))
 .rcases b with b|b
  .exact h.oa k b a
  .rcases a with a|a
   .have:=h.pw.d.lt k a;omega
   .have:=h.pw.lt k a;omega
 .rcases b with b|b <;> rcases a with a|a
  .exact h.od k b (.inl a)
  .exact f k a (.inr (.inr b))
  .have:=h.rw.e.lt k a;omega
  .have:=i.lt k a;omega
def W5.afA {E:PI} (h:W5 w q F P F2 X O p r s S S2 c v1 v2 v3 v4 ss ts rs us) (k:PW w F P' p s S c (ss ++ [E]) ts) (b:∀g,P' g->¬(F2 g\/X g\/O g)) (f:(ss.length+1)*8<=140737488355328):
  ∃g a w1,(Builtin.append_ #[30,30] 30 #[v1, .slice (some (aD w.heap.size 0)) 1 1]).run Tryz.prog (w.alloc (.cells #[pV E.q] 53))= .ok (.slice (some (aD g 0)) (ss.length+1) a) w1/\w1.heap[q]? =some (.cells (U7 p r v1 v2 v3 v4) 35 (0,0))/\
   W5 (w1.setCell ⟨q,2,none⟩ (.slice (some ⟨g,0,none⟩) (ss.length+1) a)) q F P' F2 X (more O w (w1.setCell ⟨q,2,none⟩ (.slice (some ⟨g,0,none⟩) (ss.length+1) a))) p r s S S2 c (.slice (some (aD g 0)) (ss.length+1) a) v2 v3 v4 (ss ++ [E]) ts rs us/\aa O w (w1.setCell ⟨q,2,none⟩ (.slice (some ⟨g,0,none⟩) (ss.length+1) a)):=by
 obtain⟨g,a,w1,l,bI,iO,dN,d,i,j,aY,Fe⟩:=h.grow 2 (by kernel_rfl) Tryz.underlying30 h.o1 h.q1 (by decide) E.q f;refine⟨g,a,w1,bI,iO,?_⟩;rw [<-dN];exact⟨h.mkP k b Fe (d.trans (by simp)) (by rw [ee,List.map_append];exact i) j (aF h.o2 (λx e=>aY.block x (h.py x (h.q2 x e)) (ph h.o2 h.o1 h.box (by decide) (by decide) e))) (aF h.o3 (λx e=>aY.block x (h.py x (h.q3 x e)) (ph h.o3 h.o1 h.box (by decide) (by decide) e))) (λg e=> .inl (h.q3 g e)) (aF h.o4 (λx e=>aY.block x (h.py x (h.q4 x e)) (ph h.o4 h.o1 h.box (by decide) (by decide) e))),Fe⟩
def W5.afB {E:RI} (h:W5 w q F P F2 X O p r s S S2 c v1 v2 v3 v4 ss ts rs us) (l:RW w F2 X' r s S2 (rs ++ [E]) us) (b:∀g,X' g->¬(F g\/P g\/O g)) (f:(rs.length+1)*8<=140737488355328):
  ∃g a w1,(Builtin.append_ #[31,31] 31 #[v2, .slice (some (aD w.heap.size 0)) 1 1]).run Tryz.prog (w.alloc (.cells #[pV E.k] 110))= .ok (.slice (some (aD g 0)) (rs.length+1) a) w1/\w1.heap[q]? =some (.cells (U7 p r v1 v2 v3 v4) 35 (0,0))/\
   W5 (w1.setCell ⟨q,3,none⟩ (.slice (some ⟨g,0,none⟩) (rs.length+1) a)) q F P F2 X' (more O w (w1.setCell ⟨q,3,none⟩ (.slice (some ⟨g,0,none⟩) (rs.length+1) a))) p r s S S2 c v1 (.slice (some (aD g 0)) (rs.length+1) a) v3 v4 ss ts (rs ++ [E]) us/\aa O w (w1.setCell ⟨q,3,none⟩ (.slice (some ⟨g,0,none⟩) (rs.length+1) a)):=by
 obtain⟨g,a,w1,m,bI,iO,dN,d,i,j,aY,Fe⟩:=h.grow 3 (by kernel_rfl) Tryz.underlying31 h.o2 h.q2 (by decide) E.k f;refine⟨g,a,w1,bI,iO,?_⟩;rw [<-dN];exact⟨h.mkD l b Fe (d.trans (by simp)) (aF h.o1 (λx e=>aY.block x (h.py x (h.q1 x e)) (ph h.o1 h.o2 h.box (by decide) (by decide) e))) (by rw [ee,List.map_append];exact i) j (aF h.o3 (λx e=>aY.block x (h.py x (h.q3 x e)) (ph h.o3 h.o2 h.box (by decide) (by decide) e))) (aF h.o4 (λx e=>aY.block x (h.py x (h.q4 x e)) (ph h.o4 h.o2 h.box (by decide) (by decide) e))) (λg e=> .inl (h.q4 g e)),Fe⟩
def W5.afC {E:PT} (h:W5 w q F P F2 X O p r s S S2 c v1 v2 v3 v4 ss ts rs us) (k:PW w F P' p s S c ss (ts ++ [E])) (b:∀g,P' g->¬(F2 g\/X g\/O g)) (f:(ts.length+1)*8<=140737488355328):
  ∃g a w1,(Builtin.append_ #[32,32] 32 #[v3, .slice (some (aD w.heap.size 0)) 1 1]).run Tryz.prog (w.alloc (.cells #[pV E.t] 56))= .ok (.slice (some (aD g 0)) (ts.length+1) a) w1/\w1.heap[q]? =some (.cells (U7 p r v1 v2 v3 v4) 35 (0,0))/\
   W5 (w1.setCell ⟨q,4,none⟩ (.slice (some ⟨g,0,none⟩) (ts.length+1) a)) q F P' F2 X (more O w (w1.setCell ⟨q,4,none⟩ (.slice (some ⟨g,0,none⟩) (ts.length+1) a))) p r s S S2 c v1 v2 (.slice (some (aD g 0)) (ts.length+1) a) v4 ss (ts ++ [E]) rs us/\aa O w (w1.setCell ⟨q,4,none⟩ (.slice (some ⟨g,0,none⟩) (ts.length+1) a)):=by
 obtain⟨g,a,w1,l,bI,iO,dN,d,i,j,aY,Fe⟩:=h.grow 4 (by kernel_rfl) Tryz.underlying32 h.o3 h.q3 (by decide) E.t f;refine⟨g,a,w1,bI,iO,?_⟩;rw [<-dN];exact⟨h.mkP k b Fe (d.trans (by simp)) (aF h.o1 (λx e=>aY.block x (h.py x (h.q1 x e)) (ph h.o1 h.o3 h.box (by decide) (by decide) e))) (λg e=> .inl (h.q1 g e)) (aF h.o2 (λx e=>aY.block x (h.py x (h.q2 x e)) (ph h.o2 h.o3 h.box (by decide) (by decide) e))) (by rw [ee,List.map_append];exact i) j (aF h.o4 (λx e=>aY.block x (h.py x (h.q4 x e)) (ph h.o4 h.o3 h.box (by decide) (by decide) e))),Fe⟩
def W5.afD {E:RJ} (h:W5 w q F P F2 X O p r s S S2 c v1 v2 v3 v4 ss ts rs us) (k:RW w F2 X' r s S2 rs (us ++ [E])) (b:∀g,X' g->¬(F g\/P g\/O g)) (f:(us.length+1)*8<=140737488355328):
  ∃g a w1,(Builtin.append_ #[33,33] 33 #[v4, .slice (some (aD w.heap.size 0)) 1 1]).run Tryz.prog (w.alloc (.cells #[pV E.u] 122))= .ok (.slice (some (aD g 0)) (us.length+1) a) w1/\w1.heap[q]? =some (.cells (U7 p r v1 v2 v3 v4) 35 (0,0))/\
   W5 (w1.setCell ⟨q,5,none⟩ (.slice (some ⟨g,0,none⟩) (us.length+1) a)) q F P F2 X' (more O w (w1.setCell ⟨q,5,none⟩ (.slice (some ⟨g,0,none⟩) (us.length+1) a))) p r s S S2 c v1 v2 v3 (.slice (some (aD g 0)) (us.length+1) a) ss ts rs (us ++ [E])/\aa O w (w1.setCell ⟨q,5,none⟩ (.slice (some ⟨g,0,none⟩) (us.length+1) a)):=by
 obtain⟨g,a,w1,l,bI,iO,dN,d,i,j,aY,Fe⟩:=h.grow 5 (by kernel_rfl) Tryz.underlying33 h.o4 h.q4 (by decide) E.u f;refine⟨g,a,w1,bI,iO,?_⟩;rw [<-dN];exact⟨h.mkD k b Fe (d.trans (by simp)) (aF h.o1 (λx e=>aY.block x (h.py x (h.q1 x e)) (ph h.o1 h.o4 h.box (by decide) (by decide) e))) (aF h.o2 (λx e=>aY.block x (h.py x (h.q2 x e)) (ph h.o2 h.o4 h.box (by decide) (by decide) e))) (λg e=> .inl (h.q2 g e)) (aF h.o3 (λx e=>aY.block x (h.py x (h.q3 x e)) (ph h.o3 h.o4 h.box (by decide) (by decide) e))) (by rw [ee,List.map_append];exact i) j,Fe⟩
end
def Xx {β:Type} {f:α->β} {l:List α} {a b:α} (c:l[i]? =some a) (h:f b=f a):(l.set i b).map f=l.map f:=by
 rw [List.map_set];apply List.ext_getElem?;intro n;by_cases e:n=i
 .subst e;rw [rR (by simpa using ((mS.1 c).1)),BE,c,h];rfl
 .rw [su (λh=>e h.symm)]
def np {l:List α} {a x:α} (b:(l ++ [a])[n]? =some x):(n=l.length/\x=a)\/(n<l.length/\l[n]? =some x):=by
 by_cases e:n<l.length
 .rw [u9 e] at b;exact .inr ⟨e,b⟩
 .have d:=(mS.1 b).1;have c:n=l.length:=by simp at d;omega
  subst c;rw [wm (bR _),Nat.sub_self] at b;exact .inl ⟨rfl,by simpa using b.symm⟩
def T5 {l:List α} {a x:α} (h:l[n]? =some x):(l ++ [a])[n]? =some x:=by
 rw [u9 (mS.1 h).1];exact h
def M7 (l:List α) (a:α):(l ++ [a])[l.length]? =some a:=by
 rw [wm (bR _),Nat.sub_self];rfl
def Lk.begun {S:DS} {s:Nat} {v:List PI} {z:List PT} {rs:List RI} {us:List RJ} {I:PI} {R:RI} {t:Nat} (h:Lk S s N v z rs us) (x:v[i]? =some I) (f:rs[i]? =some R) (U:I.G.busy=false):
  Lk S s N (v.set i {I with G:={I.G with busy:=true}}) (z ++ [⟨i,t,n,⟨[],0,false⟩⟩]) (rs.set i {R with G:={I.G with busy:=true},nv:=pV u}) (us ++ [⟨i,u,tv, [],⟨[],0,false⟩⟩]):=by
 have bX:∀(j:Nat) (J:PT),z[j]? =some J->J.i=i->J.T.ended=true:=λj J k g=>by
  rcases h.now i I R x f with ⟨_,_,o⟩|⟨r,J',K',l,_,o,_,E,F⟩
  .exact o j J k g
  .by_cases e:j=r
   .subst e;rw [k] at l;cases l;rw [E,U];rfl
   .exact F j J k g e
 refine⟨by rw [List.length_set,List.length_set];exact h.sl,λm A C c a=>?_,by rw [ee,ee,h.tl];rfl,λm A C c a=>?_,?_,λm A C c a=>?_,λC a=>?_,λm C K a p g O=>?_,h.rf⟩
 .rcases du x c with ⟨d,rfl⟩|⟨q,c⟩<;> rcases du f a with ⟨w,rfl⟩|⟨y,a⟩
  .rfl
  .exact absurd d y
  .exact absurd w q
  .exact h.sg m A C c a
 .have M:=h.tl;rcases np c with ⟨d,rfl⟩|⟨q,c⟩<;> rcases np a with ⟨w,rfl⟩|⟨y,a⟩
  .exact⟨rfl,rfl⟩
  .omega
  .omega
  .exact h.tg m A C c a
 .have M:(v.set i {I with G:={I.G with busy:=true}}).map (λI:PI=>I.G.L)=v.map (λI:PI=>I.G.L):=Xx x rfl;rw [M];exact h.inv
 .rcases du x c with ⟨d,rfl⟩|⟨q,c⟩<;> rcases du f a with ⟨w,rfl⟩|⟨y,a⟩
  .refine .inr ⟨z.length,_,_,M7 _ _,by rw [<-h.tl];exact M7 _ _,d.symm,rfl,rfl,λr J' b nF dM=>?_⟩;rcases np b with ⟨P,_⟩|⟨_,b⟩
   .exact absurd P dM
   .exact bX r J' b (nF.trans d)
  .exact absurd d y
  .exact absurd w q
  .rcases h.now m A C c a with ⟨l,D,o⟩|⟨j,J,K,l,D,o,Q,E,F⟩
   .refine .inl ⟨l,D,λj J k g=>?_⟩;rcases np k with ⟨_,rfl⟩|⟨_,k⟩
    .exact absurd g.symm q
    .exact o j J k g
   .refine .inr ⟨j,J,K,T5 l,T5 D,o,Q,E,λr J' b nF dM=>?_⟩;rcases np b with ⟨_,rfl⟩|⟨_,b⟩
    .exact absurd nF.symm q
    .exact F r J' b nF dM
 .obtain⟨m,H⟩:=List.mem_iff_getElem?.1 a;rcases du f H with ⟨_,rfl⟩|⟨_,H⟩
  .exact h.cs R (gB f)
  .exact h.cs C (gB H)
 .rcases List.mem_append.1 p with p|p
  .rcases du f a with ⟨d,rfl⟩|⟨_,a⟩
   .exact h.ct i R K f p (g.trans d) O
   .exact h.ct m C K a p g O
  .rw [List.mem_singleton.1 p];show C.ps.length+0<=N;rw [Nat.add_zero];rcases du f a with ⟨d,rfl⟩|⟨_,a⟩
   .exact h.cs R (gB f)
   .exact h.cs C (gB a)
def W5.nowAt {w:World} {q:Nat} {F P F2 X O:Nat->Prop} {p r s c:Nat} {S d:DS} {v x y z:Value} {g TV:List PI} {k:List PT} {rs:List RI} {us:List RJ} {I:PI} {R:RI} (h:W5 w q F P F2 X O p r s S d c v x y z TV k rs us) (e:Lk d s N g k rs us) (n:g[i]? =some I) (o:rs[i]? =some R):Yb w R.nv I.G.busy:=by
 rcases e.now i I R n o with ⟨b,a,_⟩|⟨j,J,K,b,a,A,l,m,_⟩
 .exact .inl ⟨b,a⟩
 .obtain⟨M,C,t⟩:=h.rw.tx K (gB a);have f:=t.tx;refine .inr ⟨K.u,l,f.lt,?_⟩;have:=bM f;rw [<-m,<-((e.tg j J K b a).2)];exact this
end
def B.afE (h:B.ax w F p s S c) (a:Int) (f:a<=9223372036854775807):Calls prog 26 #[pQ p,iV a] w λe w'=>e= .returned (.tuple #[])/\B.ax w' F p s (S.lay a) c/\aa F w w':=by
 obtain⟨r,h,g⟩:=h;refine(XE h a f).mono ?_;rintro e w' ⟨rfl,b,d⟩;exact⟨rfl,⟨r,by rw [<-VL];exact b,g⟩,d⟩
def T6 {G:Nat->Prop} {r:Nat} {v1 v2 v3 v4:Value} (h:B.ax w F p s S c) (he:aC w G r s S) (C:∀k,F k->¬G k) (M:w.heap[q]? =some (.cells (U7 p r v1 v2 v3 v4) 35 (0,0))) (D:¬F q) (aU:S.puts.length+1<=4000000000000) (Fd:S.refused=0) (hc:c<4611686018427387904):
  Calls prog 13 #[pV q] w λe w'=>e= .returned (.bool true)/\B.ax w' F p s S (c+s)/\aa F w w':=by
 obtain⟨iM,W⟩:=bV h.lt Fd;clear Fd;obtain⟨O,K,y,Kw,afF,PX,h1⟩:=nD (yh h) (yh he) (yh M) h.ok.hi (aq M) (yh h.ok) (B.Kd h);have X:w.cell? (aD q 0)=some (pV p):=aM M;obtain⟨L,Cc⟩:∃L,L=(S.fuse == 0):=⟨_,rfl⟩;have akF:Yh (∀w',B.ax w' F p s S c->Calls prog 35 #[pQ p] w' λe BI=>e= .returned (.bool L)/\BI=w'):=λw' h=>by rw [Cc];exact B.zz h
 have akG:Yh (∀w',aC w' G r s S->Calls prog 36 #[pQ r] w' λe BI=>e= .returned (.bool L)/\BI=w'):=λw' h=>by rw [Cc];exact kr h
 clear h he M Cc;go_in;go_wp2_with fail;refine h1.mono ?_;rintro e w1 ⟨g1,cc1,rfl,pB,mt,ar⟩;have abp:=(ar.block q afF).trans y.o;have LH:w1.cell? (aD q 0)=some (pV p):=aM abp;have IP:w1.cell? (aD q 1)=some (pV r):=bG abp;have el:=mt.src;rw [PX.o.len] at el;obtain⟨pd,cQ,abq,dE⟩:=cP (yh el) (yh ar) (yh (ai ar)) ar.size;clear h1 mt el ar abp X;go_wp2_with fail;go_region_held3 (λw'=>w'.cell? (aD q 0)=some (pV p)/\w'.cell? (aD q 1)=some (pV r))
  (first|exact⟨LH,IP⟩|exact⟨g,m⟩|exact⟨l,n⟩)
  (first
   |(go_at_call 34;refine(KE (K.o.later abq.o)).mono ?_;rintro e w2 ⟨g2,rQ,rfl,gh,fB,bd⟩;have br:=fB.src;rw [PX.o.len] at br;have g:=cell_later bd LH;have m:=cell_later bd IP)
   |(go_at_call 21;refine(pD (some (aD g1 0)) (some (aD g2 0)) (s*512) cc1 rQ S.im w2 (by omega) (pd.o.later ((ai (bi w1.heap.size w1)).trans bd)) br).mono ?_;rintro e w3 ⟨rfl,bz⟩;have l:=cell_later bz g;have n:=cell_later bz m;have fS:=yh (abq.o.trans ((bd.mono dE).trans (bz.mono (k9 dE bd.size)))))
   |(go_at_call 35;refine(akF.o _ (O.o.later fS.o)).mono ?_;rintro e x ⟨rfl,pA⟩;have E3:=pA.symm;clear pA;subst E3)
   |(go_at_call 36;refine(akG.o _ (K.o.later fS.o)).mono ?_;rintro e w5 ⟨rfl,Jo⟩;have LI:=Jo.symm;clear Jo;subst LI))
 have N:=yh l;have z:=yh n;have lq:=fS.o.size;clear br fB bd bz LH IP g m n;go_wp2_with fail;refine(B.rl (O.o.later fS.o) (by omega) hc).mono ?_;rintro e x ⟨rr,rfl,_,_,eJ⟩;have vt:=eJ.size;have jZ:Yh (bW w x):=fS.o.trans (eJ.mono lq);have fd:=aJ x (.cells (ef (rr:Int) S.writes S.flushes S.refused S.puts.length) 65);have JU:=jZ.o.trans (fd.mono (by omega));have Z:=cell_later fd (cell_later eJ z.o);have UF:(x.alloc (.cells (ef (rr:Int) S.writes S.flushes S.refused S.puts.length) 65)).heap[x.heap.size]? =some (.cells (ef (rr:Int) S.writes S.flushes S.refused S.puts.length) 65 (0,0)):=heap_alloc_new _ _;obtain⟨aY,pT,jr,Yz⟩:=cP (Kx (K.o.later JU)) fd.size (yh JU) (yh UF);clear eJ l fd JU UF;go_wp2_with fail;refine bJ aY λJ nL=>?_;have RQ:=nL.size;have xI:=aJ J (.cells (ef S.reads S.writes S.flushes S.refused S.puts.length) 65);have UY:=(xI.block x.heap.size (iL (aq Yz.o) RQ)).trans ((nL.block x.heap.size (aq Yz.o)).trans Yz.o);have a:(J.alloc (.cells (ef S.reads S.writes S.flushes S.refused S.puts.length) 65)).heap[J.heap.size]? =some (.cells (ef S.reads S.writes S.flushes S.refused S.puts.length) 65 (0,0)):=heap_alloc_new _ _;obtain⟨a1,a2,a3,a4,b1,b2,b3,b4,Pq⟩:=M9 (bG UY) (bM UY) ((fU UY).trans (congrArg (λt=>some (Value.int .i64 t)) W.o)) (gH UY) (bG a) (bM a) (fU a) (gH a) (k9 lq vt);have FH:Yh (bW w (J.alloc (.cells (ef S.reads S.writes S.flushes S.refused S.puts.length) 65))):=jr.o.trans ((nL.mono (k9 Pq pT)).trans (xI.mono (k9 Pq (k9 pT RQ))));clear aY nL xI UY a Z jZ fS cQ abq pd N z;go_wp2;generalize J.alloc (.cells (ef S.reads S.writes S.flushes S.refused S.puts.length) 65)=w7 at*;clear a1 a2 a3 a4 b1 b2 b3 b4;have hz7:=FH.o.size;go_loopw [6] (λi wr=>∃j:Nat,j<=s/\i=iV (j:Int)/\B.ax wr F p s S (c+j)/\aa F w7 wr) (λi _=>s-(intOf i).toNat);case atStart=>exact⟨0,dL _,rfl,(yh (O.o.later FH.o)).out,aa.refl _ _⟩
 case round=>
  obtain⟨j,hj,rfl,hd,H⟩:=hrel;obtain⟨te,Dd⟩:=bV hd H;have f:=(H.block q (by omega) D).trans (yh ((FH.o.block q afF).trans y.o)).out;have X:wr.cell? (aD q 0)=some (pV p):=aM f;have c1:wr.cell? (aD q 1)=some (pV r):=bG f;have b:=(yh (K.o.later FH.o)).out.aw H (λk hg u=>C k u hg);obtain⟨el,br,Au,Q,U⟩:=eQ (kU b) (kr b) H.size (yh b) (yh f);clear hd H f b;by_cases bq:j<s
  .have cC:(j:Int)<(s:Int):=(by omega);go_wp2_with fail;refine bJ el λw8 YK=>?_;have T7:=YK.symm;clear YK;subst T7;go_wp2_with fail;refine bJ br λw8 YK=>?_;have T7:=YK.symm;clear YK el br;subst T7;by_cases u:S.fuse=0
   .have d:(S.fuse == 0)=true:=(by rw [u];rfl);have R:Yh (B.ax wr F p s S (c+s)/\aa F w wr):=⟨te.o.le (by omega),(aa.ah F FH.o).trans Dd.o (λ_ h=> .inl h)⟩;go_wp2;go_ret;exact⟨rfl,R.o⟩
   .have d:(S.fuse == 0)=false:=(by rw [fy];exact u);go_wp2_with fail;refine(B.Aa te.o j bq aU u).mono ?_;rintro e w9 ⟨v9,rfl,ho9,E,Br⟩;obtain⟨a9,c9,rfl,v,_⟩:=ho9;have YL:=bA PX.o j bq;rw [YL] at v⊢;have IP:w9.cell? (aD q 1)=some (pV r):=bG ((Br.block q (by omega) D).trans U.o);have Zl:=jP (Q.o.aw Br (λk hg u=>C k u hg)) j bq (by omega);have P:=yh E;have T:Yh (aa F w7 w9):=Dd.o.trans Br (λ_ h=> .inl h);have hz9:=Br.size;clear E Br X c1;go_wp2_with fail;refine Zl.mono ?_;rintro e TB ⟨g10,Y,rfl,_,DQ,afH⟩;have afI:=afH.symm;clear afH;subst afI;have abr:=DQ.src;rw [YL] at abr;have A:=pD a9 (some (aD g10 0)) 512 c9 Y (S.now j) w9 (by omega) v abr;clear Zl DQ v abr;go_wp2_with fail;refine bJ A λI abs=>?_;have HZ:Yh (B.ax I F p s S (c+(j+1))/\aa F w7 I):=⟨P.o.later abs,T.o.trans (aa.ah F abs) (λ_ h=> .inl h)⟩;clear A abs;go_wp2;go_roundw;case rel=>exact⟨j+1,by omega,by go_num,HZ.o⟩
    case measure=>simp [intOf];omega
  .obtain rfl:j=s:=(by omega);have wK:¬(j:Int)<(j:Int):=(by omega);have R:Yh (B.ax wr F p j S (c+j)/\aa F w wr):=⟨te.o,(aa.ah F FH.o).trans Dd.o (λ_ h=> .inl h)⟩;go_wp2_with fail;refine bJ el λw8 YK=>?_;have T7:=YK.symm;clear YK;subst T7;go_wp2;go_ret;exact⟨rfl,R.o⟩
section
def LJ {S:DS} (h:G.begin S=0):G.busy=false:=by
 unfold SG.begin at h;split at h
 .exact absurd h (by decide)
 .split at h
  .exact absurd h (by decide)
  .rename_i q;simpa using q
def W5.under {w:World} {q:Nat} {F P F2 X O:Nat->Prop} {p r s c:Nat} {S b:DS} {j k l m:Value} {f:List PI} {i:List PT} {rs:List RI} {us:List RJ} (h:W5 w q F P F2 X O p r s S b c j k l m f i rs us) (g:Nat) (a:F g\/P g\/F2 g\/X g\/O g):g<w.heap.size:=by
 rcases a with a|a|a|a|a
 .exact h.pw.d.lt g a
 .exact h.pw.lt g a
 .exact h.rw.e.lt g a
 .exact h.rw.lt g a
 .exact h.py g a
section
variable {w w':World} {q:Nat} {F P F2 X O A:Nat->Prop} {p r s c N:Nat} {S:DS} {v1 v2 v3 v4:Value} {ss:List PI} {ts:List PT} {rs:List RI} {us:List RJ}
end
end
section
section
variable {w w':World} {F:Nat->Prop} {p r s c:Nat} {S S':DS} {L:LG} {x:Int}
def Pr (w:World) (F:Nat->Prop) (p s c:Nat) (S:DS) (e:Ending) (w':World):Prop:=∃x S' cR,cR<=c+261/\j5 S s x S'/\aa F w w'/\((x≠0/\e= .returned (.tuple #[.pointer none,iV x])/\B.ax w' (more F w w') p s S' cR)\/(x=0/\∃q l m L F',tA S s L/\e= .returned (.tuple #[pQ q,iV 0])/\(∀k,F' k->more F w w' k)/\w.heap.size<=q/\w.heap.size<=l/\w.heap.size<=m/\iw w' F' p s cR q l m S' ⟨cE (S.now 0),L, [],false⟩))
def A2 (h:B.ax w F p s S c) (dO:S.fN) (aU:S.puts.length+6000<=4000000000000):
  Calls prog 18 #[pQ p] w λe w'=>Pr w F p s c S e w':=by
 by_cases jd:S.fuse=0\/¬mQ (S.now 0) s
 .have rL:∀x,j5 S s x S->x≠0:=λx j e=>by
   rcases j with ⟨_,n,_⟩|⟨a,b,_⟩
   .exact n e
   .exact jd.elim b (λh=>h a)
  refine(O6 h dO (by omega) jd).mono ?_;rintro e w' ⟨x,rfl,d,f,i⟩;exact⟨x,S,c+1,by omega,d,i, .inl ⟨rL x d,rfl,f.more⟩⟩
 .have qO:=Classical.byContradiction (λe=>jd (.inr e));refine(Pk h dO aU (λe=>jd (.inl e)) qO).mono ?_;rintro e w' ⟨x,S',g,d,f⟩;exact⟨x,S',g,by have:=kz qO;omega,f⟩
def LK (h:aC w F r s S) (dO:S.fN) (aU:S.puts.length+6000<=4000000000000):
  Calls prog 68 #[pQ r] w λe w'=>eK w F r s S e w':=by
 by_cases a:S.fuse=0
 .exact Ix h a
 .exact Iy h a dO aU
def oc {home:Nat}:∀{ms:CM} {S:DS},(aE S s home ms).2.life=S.life
 | [],_=>rfl
 |q :: qs,S=>by
  have a:=kE S s ((home+q.1:Nat):Int) 512 q.2;unfold aE;split
  .exact a
  .exact oc.trans a
def T8 (S:DS) (s:Nat) (f n:Int):(bC S s f n).2=S\/(bC S s f n).2.life=wrap64 (S.life+1):=by
 unfold bC;split
 .exact .inl rfl
 .split
  .exact .inr rfl
  .split
   .exact .inr rfl
   .exact .inr (fZ _ _)
def IQ {y:LY} {ov:CM} {rs:List (List Int)}:(ev S s y ov rs).2.life=S.life:=by
 unfold ev;split
 .rfl
 .split
  .exact oc
  .exact(fZ _ _).trans oc
def T9:(L.start S s).2.1.life=S.life:=by
 unfold LG.start;split
 .rfl
 .split
  .rfl
  .split <;> exact iX _ _ _ _
def j5.life (h:j5 S s x S'):(S'=S/\x≠0)\/S'.life=wrap64 (S.life+1):=by
 rcases h with ⟨_,n,rfl⟩|⟨qO,d,k⟩
 .exact .inl ⟨rfl,n⟩
 .rcases k with ⟨_,n,rfl⟩|⟨c,rs,hd,FI,k⟩
  .exact(T8 S s 1 (((cE (S.now 0)).log:Nat):Int)).imp (λh=>⟨h,n⟩) id
  .refine .inr ?_;have a:(bC S s 1 (((cE (S.now 0)).log:Nat):Int)).2.life=wrap64 (S.life+1):=by
    obtain⟨_,_,_,e⟩:=mg (f:=1) c;have b:bC S s 1 (((cE (S.now 0)).log:Nat):Int)=S.take.fl s:=e;rw [b];exact fZ _ _
   rcases k with ⟨_,_,rfl⟩|⟨ov,vf,k⟩
   .exact a
   .rcases k with ⟨_,_,rfl⟩|⟨_,_,rfl⟩
    .exact IQ.trans a
    .exact T9.trans (IQ.trans a)
def A3 {g:Nat->DS->Int×DS} (a:∀j T,(g j T).2.life=T.life):∀k,(cB S g k).2.life=S.life
 |0=>rfl
 |k+1=>by
  have:=A3 a k;unfold cB;split
  .exact this
  .exact(a k _).trans this
def LL (S:DS) (s:Nat) (f n:Int):(cD S s f n).2.life=S.life\/(cD S s f n).2.life=wrap64 (S.life+1):=by
 unfold cD;split
 .exact .inl rfl
 .refine .inr ?_;have a:(bF S.take s f.toNat (n.toNat+2)).2.life=wrap64 (S.life+1):=A3 (λ_ _=>kE _ _ _ _ _) _;have b:(cO S.take s f.toNat n.toNat).2.life=wrap64 (S.life+1):=by
   unfold cO;split
   .exact a
   .exact(fZ _ _).trans a
  split
  .exact b
  .exact(iX _ _ _ _).trans b
def uT (S:DS) (s a n:Nat):(eD S s a n).2.life=S.life:=by
 unfold eD;split
 .exact oc
 .exact(fZ _ _).trans oc
def LM (S:DS) (s:Nat) (a b c:Int):(bZ S s a b c).2=S\/(bZ S s a b c).2.life=wrap64 (S.life+1)\/(bZ S s a b c).2.life=wrap64 (wrap64 (S.life+1)+1):=by
 unfold bZ;split
 .exact .inl rfl
 .split
  .refine .inr ?_;have e:(mj S s).2.life=wrap64 (S.life+1):=uT S.take s 0 1;have f:(nr S s).2.life=wrap64 (S.life+1):=(uT (mj S s).2 s 1 (s-1)).trans e;have d:(jW S s b.toNat).2.life=wrap64 (S.life+1)\/(jW S s b.toNat).2.life=wrap64 (wrap64 (S.life+1)+1):=by
    have:=LL (nr S s).2 s 1 (b.toNat:Int);rw [f] at this;exact this
   have g:(ml S s b.toNat c.toNat).2.life=(jW S s b.toNat).2.life:=kE _ _ _ _ _;unfold lQ;split
   .exact .inl e
   .split
    .exact .inl f
    .split
     .exact d
     .split
      .rw [g];exact d
      .rw [fZ,g];exact d
  .exact .inl rfl
def A4 (h:L.life<S.life):L.dead S=true:=by
 unfold LG.dead;have:(S.life != L.life)=true:=by rw [gg];omega
 rw [this,Bool.or_true]
def Ua (S S':DS) (rs:List RI):Prop:=∀R∈rs,R.G.L.dead S'=false->R.G.L.dead S=false/\∀b,b<R.G.y.blocks->S'.now (R.G.y.home+b)=S.now (R.G.y.home+b)
def Lk.YM {a:List PI} {e:List PT} {rs:List RI} {us:List RJ} (h:Lk S s N a e rs us):∀R∈rs,R.G.L.life<=S.life:=λR d=>by
 obtain⟨i,c⟩:=List.mem_iff_getElem?.1 d;obtain⟨I,b⟩:∃I,a[i]? =some I:=⟨a[i]'(by rw [<-h.sl];exact(mS.1 c).1),qQ _⟩;rw [h.sg i I R b c];exact(h.inv.ol I.G.L (List.mem_map.2 ⟨I,gB b,rfl⟩)).2
def Lk.tk {c:List PI} {d:List PT} {rs:List RI} {us:List RJ} (h:Lk S s N c d rs us) (a:S'=S\/S.life<S'.life):Ua S S' rs:=λR b hd=>by
 rcases a with rfl|a
 .exact⟨hd,λ_ _=>rfl⟩
 .rw [A4 (by have:=h.YM R b;omega)] at hd;cases hd
def wj (h0:0<=S.life) (a:S.life<=N) (b:N<=3999999990000):wrap64 (S.life+1)=S.life+1/\wrap64 (wrap64 (S.life+1)+1)=S.life+2:=by
 have e:wrap64 (S.life+1)=S.life+1:=by unfold wrap64;omega
 refine⟨e,?_⟩;rw [e];unfold wrap64;omega
def Lk.opened {d:List PI} {e:List PT} {rs:List RI} {us:List RJ} {I:PI} {R:RI} (h:Lk S s N d e rs us) (k:N<=M) (c:V.Inv S' s (d.map (λI=>I.G.L) ++ [I.G.L]) M) (o:R.G=I.G) (p:R.nv= .pointer none) (q:I.G.busy=false) (r:R.ps= []) (v:∀J∈e,J.i<d.length) (w:∀K∈us,K.i<rs.length) (Fd:S'.refused=S.refused):Lk S' s M (d ++ [I]) e (rs ++ [R]) us:=by
 have z:=h.sl;refine⟨by rw [ee,ee,h.sl];rfl,λm A C b a=>?_,h.tl,h.tg,by rw [List.map_append];exact c,λm A C b a=>?_,λC a=>?_,λm C K a g l x=>?_,Fd.trans h.rf⟩
 .rcases np b with ⟨f,rfl⟩|⟨n,b⟩<;> rcases np a with ⟨t,rfl⟩|⟨y,a⟩
  .exact o
  .omega
  .omega
  .exact h.sg m A C b a
 .rcases np b with ⟨f,rfl⟩|⟨n,b⟩<;> rcases np a with ⟨t,rfl⟩|⟨y,a⟩
  .refine .inl ⟨p,q,λj J u l=>?_⟩;have:=v J (gB u);omega
  .omega
  .omega
  .exact h.now m A C b a
 .rcases List.mem_append.1 a with a|a
  .exact k9 (h.cs C a) k
  .rw [List.mem_singleton.1 a,r];exact dL _
 .rcases np a with ⟨f,rfl⟩|⟨n,a⟩
  .have:=w K g;omega
  .exact k9 (h.ct m C K a g l x) k
def PW.ti {P:Nat->Prop} {a:List PI} {b:List PT} (h:PW w F P p s S c a b):∀J∈b,J.i<a.length:=λJ e=>by
 obtain⟨I,d,_⟩:=h.tx J e;exact(mS.1 d).1
def RW.ui {X:Nat->Prop} {rs:List RI} {us:List RJ} (h:RW w F X r s S rs us):∀K∈us,K.i<rs.length:=λK b=>by
 obtain⟨I,a,_⟩:=h.tx K b;exact(mS.1 a).1
end
end
section
section
variable {w w':World} {q:Nat} {F P F2 X O A:Nat->Prop} {p r s c N:Nat} {S:DS} {v1 v2 v3 v4:Value} {ss:List PI} {ts:List PT} {rs:List RI} {us:List RJ}
def abt (h:W5 w q F P F2 X O p r s S S c v1 v2 v3 v4 ss ts rs us) (n:Lk S s N ss ts rs us) (f:∀g,(F g\/P g\/F2 g\/X g\/O g)->A g) (h1:ss.length<=N) (h2:ts.length<=N) (hc:c<=5000*N) (hN:N<=3999999990000):
  Calls prog 25 #[pV q] w λe w'=>e= .returned (.bool true)/\ew w w' q A p r s N:=by
 obtain⟨ME,l1,l2,c0,c1⟩:=eQ n.inv.p6 (B.wN h.pw.d) (nR h.rw.e) h.c0 h.c1;have ho:=A2 h.pw.d n.inv.qi (by omega);have u:=(λ(j:World) (hd:aC j F2 r s S)=>LK hd n.inv.qi (by omega));obtain⟨wl1,wl2⟩:=wj n.inv.l0 n.inv.lt hN;obtain⟨l,o,FD⟩:=kH h n h.under;clear h n;go_in;go_wp2_with fail;refine bJ l1 λw1 bT=>?_;have jR:=bT.symm;clear bT l1;subst jR;go_wp2_with fail;refine bJ l2 λw1 bT=>?_;have jR:=bT.symm;clear bT l2;subst jR;go_wp2_with fail;refine ho.mono ?_;rintro e j ⟨x,S',cR,hcR,mm,aY,Ub⟩;have hS:S'=S\/S.life<S'.life:=mm.life.imp (λh=>h.1) (λh=>by omega);have G:x=0->S.life<S'.life:=λe=>mm.life.elim (λh=>absurd e h.2) (λh=>by omega);obtain⟨em,Fd,z,C⟩:=cP aY.size mm.rf mm ((o.tk hS));have t:=(o.inv.fC (by omega) mm);have pi:aa (λg=>F g\/P g) w j:=aY.mono (λg h=> .inl h);clear ho mm hS;rcases Ub with ⟨b,rfl,cI⟩|⟨b,q0,l0,m0,L,F',mX,rfl,YN,pP,ws,hm0,lz⟩
 .have oe:=l.pw.lB (λg h=>h) cI aY;have i5:=l.prog oe pi (λg h=>h) rfl rfl;obtain⟨H,IP,ff,ii⟩:=cP (u j i5.rw.e) i5.c1 i5 pi;clear oe i5 cI aY pi c0 c1;go_wp2_with fail;refine H.mono ?_;rintro e i ⟨y,S2,Iz,aZ,LN⟩;obtain⟨e1,e2⟩:=z.same Iz;subst e1;subst e2;clear Iz H;rcases LN with ⟨_,rfl,yD⟩|⟨rL,_⟩
  .have og:=ff.rw.lB (λg h=>h) yD aZ C;have mZ:aa (λg=>F2 g\/X g) j i:=aZ.mono (λg h=> .inl h);have io:=ff.doc og mZ (λg h=>h) (λg h=> .inl h) rfl rfl;have kw:=ai (bi i.heap.size i);have uU:=io.later kw;obtain⟨T,U,D,E⟩:=cP (B.wN uU.pw.d) (nR uU.rw.e) io.c0 io.c1;have uV:=(((ii).mono (λg a=>f g (by rcases a with a|a;exact .inl a;exact .inr (.inl a)))).trans mZ (λg a=> .inl (f g (by rcases a with a|a;exact .inr (.inr (.inl a));exact .inr (.inr (.inr (.inl a))))))).trans (aa.ah (λ_=>False) kw) (λ_ h=>h.elim);have W:(ew w i.drew q A p r s N):=⟨λg=>A g\/w.heap.size<=g,⟨_,_,_,_,_,_,cR,_,_,_,_,_,_,_,_,uU,o.T0 (M:=N+2) (by omega) ((t.1 b).more (by omega)) Fd,λg a=>(by
    rcases a with (a|a)|a|(a|a)|a|a
    .exact .inl (f g (.inl a))
    .exact .inr a.1
    .exact .inl (f g (.inr (.inl a)))
    .exact .inl (f g (.inr (.inr (.inl a))))
    .exact .inr (by omega)
    .exact .inl (f g (.inr (.inr (.inr (.inl a)))))
    .exact .inl (f g (.inr (.inr (.inr (.inr a)))))),by omega,by omega,by omega⟩,uV,λ_ h=>h⟩
   clear og mZ io uU kw uV yD aZ IP;go_wp2_with fail;go_region_held3 (λw'=>w'.cell? (aD q 0)=some (pV p)/\w'.cell? (aD q 1)=some (pV r))
    (exact⟨D,E⟩)
    (first
     |(go_at_call 22;refine T.mono ?_;rintro e w4 ⟨rfl,pA⟩;have E3:=pA.symm;clear pA;subst E3)
     |(go_at_call 23;refine U.mono ?_;rintro e w5 ⟨rfl,Jo⟩;have LI:=Jo.symm;clear Jo;subst LI))
   clear T U D E;go_wp2;go_ret;exact⟨by simp,W⟩
  .exact absurd rL b
 .subst b;have G:=G rfl;have i5:=l.prog (l.pw.lB YN lz.d aY) pi YN rfl rfl;obtain⟨H,IP,nq,nl,nm,ff,ii,Z,v⟩:=M9 (u j i5.rw.e) i5.c1 lz.st.lt lz.lp.lt lz.ch.lt i5 pi (l.pw.push YN lz pP ws hm0 aY) mX;clear i5 lz aY pi c0 c1 mX;go_wp2_with fail;refine H.mono ?_;rintro e i ⟨y,S2,Iz,aZ,LN⟩;obtain⟨e1,e2⟩:=z.same Iz;subst e1;subst e2;clear Iz H;rcases LN with ⟨rL,_⟩|⟨_,k0,Q,L2,F3,X2,afJ,rfl,Sq,MP,yD,vY⟩
  .exact absurd rfl rL
  .obtain rfl:=v.same afJ;have J:=ff.rw.push (I:=⟨k0,Q, .slice none 0 0, [],0, .pointer none,⟨cE (S.now 0),L, [],false⟩⟩) Sq MP yD vY rfl aZ (λK hK=>A4 (by have:=o.YM K hK;omega));have mZ:aa (λg=>F2 g\/X g) j i:=aZ.mono (λg h=> .inl h);have io:=ff.doc (ff.rw.lB Sq yD aZ C) mZ Sq (λg h=> .inl h) rfl rfl;have z2:j.heap.size<=i.drew.heap.size:=aZ.size;have kZ:∀g,w.heap.size<=g->¬(F2 g\/X g\/O g):=λg a b=>by have:=FD g (by rcases b with b|b|b;exact .inr (.inr (.inl b));exact .inr (.inr (.inr (.inl b)));exact .inr (.inr (.inr (.inr b))));omega
   have k:∀g,w.heap.size<=g->¬P g:=λg a b=>by have:=FD g (.inr (.inl b));omega
   have afK:=Z.aw aZ (λg a b=>ff.ad g (.inl a) (.inl b)) (λg a b=>by
    rcases a with a|a
    .exact ff.ad g (.inr a) (.inl b)
    .exact kZ g (by omega) (.inl b))
   have kw:=ai (bi i.heap.size i);have YO:∀g,X2 g->g<i.drew.heap.size:=vY.lt;have Cn:=(((ii).mono (λg a=>f g (by rcases a with a|a;exact .inl a;exact .inr (.inl a)))).trans mZ (λg a=> .inl (f g (by rcases a with a|a;exact .inr (.inr (.inl a));exact .inr (.inr (.inr (.inl a))))))).trans (aa.ah (λ_=>False) kw) (λ_ h=>h.elim);have uU:=io.later kw;obtain⟨T,U,D,E,LP,HPd,Wm,Y⟩:=xA (B.wN uU.pw.d) (nR uU.rw.e) io.c0 io.c1 uU ((afK.later kw)) ((J.later kw)) Cn;clear J mZ io uU afK yD aZ vY IP afJ kw Cn;go_wp2_with fail;go_region_held3 (λw'=>w'.cell? (aD q 0)=some (pV p)/\w'.cell? (aD q 1)=some (pV r))
    (exact⟨D,E⟩)
    (first
     |(go_at_call 22;refine T.mono ?_;rintro e w4 ⟨rfl,pA⟩;have E3:=pA.symm;clear pA;subst E3)
     |(go_at_call 23;refine U.mono ?_;rintro e w5 ⟨rfl,Jo⟩;have LI:=Jo.symm;clear Jo;subst LI))
   clear T U D E;generalize i.drew=Vd at*;obtain⟨g4',Ek,V4,wP,Js,xN,dW⟩:=LP.afA HPd (λg a b=>by
    rcases a with a|a
    .rcases b with b|b|b
     .exact LP.ad g (.inr a) (.inl b)
     .exact LP.ad g (.inr a) (.inr b)
     .exact LP.oa g b (.inr a)
    .rcases b with b|b
     .rcases Sq g b with b|b
      .exact kZ g (by omega) (.inl b)
      .omega
     .exact kZ g (by omega) (.inr b)) (by omega)
   have BP:=LP.c2;have q4:=bM Js;have f4:=ae Js 2;obtain⟨V5,m⟩:=bP (V4.setCell ⟨q,2,none⟩ (.slice (some ⟨g4',0,none⟩) (ss.length+1) Ek));have Pq:V5.heap.size=V4.heap.size:=(by rw [m];simp);rw [<-m] at xN dW;have afL:=Wm.aw dW (λg a b=>LP.od g b (.inl a)) (λg a b=>by
    rcases a with a|a
    .exact LP.od g b (.inr a)
    .have:=MP g a;exact kZ g (by omega) (.inr (.inr b)))
   obtain⟨g5',NY,V6,nP,nU,FA,jE⟩:=xN.afB afL (λg a b=>by
    rcases a with a|a
    .rcases b with b|b|b
     .exact xN.ad g (.inl b) (.inr a)
     .exact xN.ad g (.inr b) (.inr a)
     .exact xN.od g b (.inr a)
    .have a1:=MP g a;have a2:=YO g a;rcases b with b|(b|b)|(b|b)
     .have:=ff.under g (.inl b);omega
     .exact k g (by omega) b
     .omega
     .exact kZ g (by omega) (.inr (.inr b))
     .omega) (by have:=o.sl;omega)
   obtain⟨Ni,q5,f5,z4⟩:=cP xN.c3 (fU nU) (ae nU 3) dW.size;have uV:=(Y.trans dW (λg a=> .inl (f g (.inr (.inr (.inr (.inr a))))))).trans jE (λg a=>by
    rcases a with a|a
    .exact .inl (f g (.inr (.inr (.inr (.inr a)))))
    .exact .inr (by omega))
   have W:(ew w (V6.setCell ⟨q,3,none⟩ (.slice (some ⟨g5',0,none⟩) (rs.length+1) NY)) q A p r s N):=⟨λg=>A g\/w.heap.size<=g,⟨_,_,_,_,_,_,cR,_,_,_,_,_,_,_,_,FA,o.opened (I:=⟨q0,l0,m0,⟨cE (S.now 0),L, [],false⟩⟩) (R:=⟨k0,Q, .slice none 0 0, [],0, .pointer none,⟨cE (S.now 0),L, [],false⟩⟩) (M:=N+2) (by omega) ((t.2 (by trivial) L v).more (by omega)) rfl rfl rfl rfl l.pw.ti l.rw.ui Fd,λg a=>(by
    rcases a with a|(a|a)|a|(a|a)|((a|a)|a)
    .rcases YN g a with a|a
     .exact .inl (f g (.inl a))
     .exact .inr a.1
    .exact .inl (f g (.inr (.inl a)))
    .exact .inr (by omega)
    .rcases Sq g a with a|a
     .exact .inl (f g (.inr (.inr (.inl a))))
     .exact .inr (by omega)
    .exact .inl (f g (.inr (.inr (.inr (.inl a)))))
    .exact .inr (by have:=MP g a;omega)
    .exact .inl (f g (.inr (.inr (.inr (.inr a)))))
    .exact .inr (by omega)
    .exact .inr (by omega)),by rw [ee];show ss.length+1<=_;omega,by omega,by omega⟩,uV,λ_ h=>h⟩
   rw [Pq] at nP;rw [m] at nP Ni;have H7:=wP;have H8:=nP;clear kZ k wP Js xN dW afL nP nU FA jE uV YO Sq MP YN;go_wp2_with (at_builtin;first|refine bu rfl _ _ 30 rfl v1 (.slice (some (aD Vd.heap.size 0)) 1 1) _ rfl rfl H7 ?_|refine bu rfl _ _ 31 rfl v2 (.slice (some (aD V4.heap.size 0)) 1 1) _ rfl rfl H8 ?_);go_wp2;go_ret;exact⟨rfl,W⟩
end
end
section
def LQ {B:Int} (h:Bytes d):Bytes (lC B d):=by
 unfold lC;split
 .exact Mb B
 .exact h
def Uc {B:Int}:(lC B d).length=512\/(lC B d).length=d.length:=by
 unfold lC;split
 .exact .inl (uZ B)
 .exact .inr rfl
section
variable {w:World} {g:Nat} {c0 c1 c2 c3 c4 c5 c6 c7 c8:Value} {e:TypeId}
def gU (h:w.heap[g]? =some (.cells #[c0,c1,c2,c3,c4,c5,c6,c7,c8] e (0,0))):w.cell? (aD g 0)=some c0/\w.cell? (aD g 1)=some c1/\w.cell? (aD g 2)=some c2/\w.cell? (aD g 3)=some c3/\w.cell? (aD g 4)=some c4/\w.cell? (aD g 5)=some c5/\w.cell? (aD g 6)=some c6/\w.cell? (aD g 7)=some c7/\w.cell? (aD g 8)=some c8:=
   ⟨aM h,bG h,bM h,fU h,gH h,sv h,xz h,rH h,DG h⟩
end
def Ps {S:DS} {b:Int} (e:CM.Ok T.puts) (a:∀x∈T.puts,x.1<G.y.blocks):(T.put G S b d).2.ended=T.ended/\(T.put G S b d).2.puts.length<=T.puts.length+1/\∀x∈(T.put G S b d).2.puts,x.1<G.y.blocks:=by
 unfold TG.put;split
 .exact⟨rfl,Nat.le_succ _,a⟩
 .rename_i q;split
  .exact⟨rfl,Nat.le_succ _,a⟩
  .split
   .exact⟨rfl,Nat.le_succ _,a⟩
   .split
    .exact⟨rfl,Nat.le_succ _,a⟩
    .obtain⟨_,_,_,f,g⟩:=iY (Decidable.of_not_not q);refine⟨rfl,?_,λx c=>?_⟩
     .show (CM.put T.puts b.toNat d).length<=_;rw [CM.sO e];split <;> omega
     .rcases CM.rg c with rfl|c
      .show b.toNat<_;omega
      .exact a x c
def PW.afM {w w':World} {F P:Nat->Prop} {p s c c':Nat} {S:DS} {o:List PI} {r:List PT} {I:PI} {J:PT} {T':TG} (h:PW w F P p s S c o r) (f:o[J.i]? =some I) (u:r[j]? =some J) (nX:w'.heap[J.t]? =some (.cells (B4 I.q J.n T') 98 (0,0))) (ny:Ch w' J.n T'.puts) (po:∀x∈T'.puts,x.1<I.G.y.blocks) (hd:B.ax w' F p s S c') (k:aa (λg=>F g\/g=J.t\/g=J.n) w w'):PW w' F P p s S c' o (r.set j {J with T:=T'}):=by
 have b:=h.Fc f;have e:=h.LA u f;have bj:iw w' F p s c' I.q I.l I.m S I.G:=⟨hd,b.st.aw k (λa=>by rcases a with a|a|a;exact b.nq a;exact e.tq a.symm;exact e.nq a.symm),b.lp.aw k (λa=>by rcases a with a|a|a;exact b.nl a;exact e.tl a.symm;exact e.nl a.symm),b.ch.aw k (λa=>by rcases a with a|a|a;exact b.nm a;exact e.tm a.symm;exact e.nm a.symm),b.nq,b.nl,b.nm,b.ql,b.qm,b.lm,b.lk,b.bg,b.hs,b.kb⟩;have:=h.on f u rfl rfl (λg d=> .inl d) bj nX ny po (k.mono (λg d=>by rcases d with d|d|d;exact .inl d;exact .inr (.inr (.inr (.inr (.inl d))));exact .inr (.inr (.inr (.inr (.inr d))))));rwa [mR f] at this
section
variable {w w':World} {q:Nat} {F P F2 X O A:Nat->Prop} {p r s c N:Nat} {S:DS} {v1 v2 v3 v4:Value} {ss:List PI} {ts:List PT} {rs:List RI} {us:List RJ}
end
end
section
section
variable {w w':World} {q:Nat} {F P F2 X O A:Nat->Prop} {p r s c N:Nat} {S:DS} {v1 v2 v3 v4:Value} {ss:List PI} {ts:List PT} {rs:List RI} {us:List RJ}
def Dx (h:W5 w q F P F2 X O p r s S S c v1 v2 v3 v4 ss ts rs us) (hl:Lk S s N ss ts rs us) (E:∀g,(F g\/P g\/F2 g\/X g\/O g)->A g) (mw:∀g,A g->g<w.heap.size) (h1:ss.length<=N) (h2:ts.length<=N) (hc:c<=5000*N) (hN:N<=3999999990000) (kd ag Z BB:Int) (da:Option Addr) (dn dc:Nat) (pa:Option Addr) (pn pc:Nat) (x y z:Int) (AX:ag<=9223372036854775807) (d:List Int) (yq:∀W,aa A w W->Src W da dn d) (xQ:Bytes d) (Eb:dn<=140737488355328) (EV:kd=4\/kd=5\/kd=6\/kd=7\/kd=8\/kd=9\/kd=12):
  Calls prog 32 #[pV q, .agg (jG kd ag Z BB da dn dc pa pn pc x y z)] w λe w'=>e= .returned (.bool true)/\ew w w' q A p r s N:=by
 obtain⟨W,hW⟩:=bP (w.alloc (.cells (jG kd ag Z BB da dn dc pa pn pc x y z) 41));have E8:bW w W:=by rw [hW];exact(bi w.heap.size w).alloc (bR _) _
 have Ci:W.heap[w.heap.size]? =some (.cells (jG kd ag Z BB da dn dc pa pn pc x y z) 41 (0,0)):=by rw [hW];exact heap_alloc_new _ _
 have Il:W.heap.size=w.heap.size+1:=by rw [hW,World.size_alloc]
 have uv:¬A w.heap.size:=λv=>by have:=mw _ v;omega
 obtain⟨a3,c3,hv3⟩:=AV h.o3;have TX:=h.later E8;have d0:W.cell? (aD w.heap.size 0)=some (iV kd):=aM Ci;have d1:W.cell? (aD w.heap.size 1)=some (iV ag):=bG Ci;have e4:=TX.c4;have tF:=λk=>AU (W.drewN k) ts.length ag AX (by omega);obtain⟨HW,U,De,MT⟩:=cP TX hl E8 Ci;rw [hv3] at e4;clear h hl TX E8 Ci;go_in;go_wp2_with fail;rw [<-hW];clear hW;go_quiet (first|(go_at_call 73;refine Calls.quiet_of_same (tF _)));rename_i nq _;have hq:bW W (W.drewN nq):=below_drewN (bi _ _) nq;have fT:=(HW.later hq);have uS:=(De.trans (hq.mono (by omega)));have YC:(W.drewN nq).heap.size=w.heap.size+1:=Il;have U8:=((hq.block w.heap.size (by omega)).trans MT);clear HW De MT tF hq d0 d1 e4 Il;generalize W.drewN nq=V at*;have dV0:V.cell? (aD w.heap.size 0)=some (iV kd):=aM U8;have dV2:V.cell? (aD w.heap.size 2)=some (iV Z):=bM U8;have e4:=fT.c4;have e5:=fT.c5;by_cases q0:ts.length=0
 .have fR:bk ts.length ag= -1:=by unfold bk;rw [aG q0]
  rw [fR];go_wp2;go_ret;exact⟨rfl,ew.idle fT U E h1 h2 hc uS⟩
 .obtain⟨j,hj,YJ⟩:=TW (show 0<ts.length by omega) ag;rw [YJ];have Zt:¬(j:Int)<0:=by omega
  have Y0:(j:Int)<(ts.length:Int):=by omega
  obtain⟨J,K,I,R,Q,H,D,Y,k1,k2,k3⟩:=fT.tx U hj;obtain⟨g3,cp3,TY,t3⟩:=wi (i:=j) fT.o3 (by rw [BE,Q];rfl);obtain⟨g4,cp4,TZ,t4⟩:=wi (i:=j) fT.o4 (by rw [BE,H];rfl);rw [TY] at e4;rw [TZ,U.tl] at e5;have BV:rs[K.i]? =some R:=by rw [k1];exact Y
  clear YJ q0;rcases EV with rfl|rfl|rfl|rfl|rfl|rfl|rfl
  .have Ju:∀(x0 x1 x2 x3 x4:Int) (wx:World),(Instr.field 65 (.agg #[iV x0,iV x1,iV x2,iV x3,iV x4]) 0).run prog wx= .ok (iV x0) wx:=λ_ _ _ _ _ _=>by kernel_rfl
   have e0:=fT.c0;have ME:=U.inv.p6;have mv:=U.cs R (gB Y);have hld:(lC BB d).length<=140737488355328:=by
    have a1:=(yq w (aa.ah A (bi _ _))).1;rcases Uc (B:=BB) (d:=d) with a2|a2 <;> omega
   have BM:=LQ (B:=BB) xQ;have Yr:=yq;have rW:∀g,F g\/P g->g<V.heap.size:=λg a=>a.elim (fT.pw.d.lt g) (fT.pw.lt g);have FD:=rW;have ZH:∀g,F2 g\/X g->g<V.heap.size:=λg a=>a.elim (fT.rw.e.lt g) (fT.rw.lt g);have HXl:=ZH;have A5:=fT.pw.LA Q D;have nA:=Ps (G:=I.G) (S:=S) (b:=Z) (d:=lC BB d) A5.ch.ok A5.kb;obtain⟨_,_,_,_,⟨pt,pn'⟩,_⟩:=fT.pw.tx J (gB Q);clear dV0 dV2 yq rW ZH A5;obtain⟨y0,y1,y2,y3,y4,y5,y6,y7,y8⟩:=gU U8;go_wp2_with fail;refine(lS 4 ag Z BB da dn dc pa pn pc x y z d V (Yr V (aa.ah A uS)) Eb).mono ?_;rintro e V1 ⟨g1,rfl,pB,YP,ar⟩;have Lh:=fT.later ar;have e01:=Lh.c0;obtain⟨Jg,cQ,HW1,zI⟩:=cP (B.rl Lh.pw.d (by omega) (by omega)) ar Lh YP;clear ar Lh YP y0 y1 y2 y3 y4 y5 y6 y7 y8 e0;go_wp2_with fail;refine Jg.mono ?_;rintro e C ⟨rr,rfl,Jl,cI,bd⟩;have i5:=HW1.prog (HW1.pw.lB (λg h=> .inl h) cI (aa.ah F bd)) (aa.ah _ bd) (λg h=> .inl h) rfl rfl;have pb:=zI.agree (bd.block g1 zI.lt);have sT:=Wq (i5.pw.Fc D) (i5.pw.LA Q D) Z (some (aD g1 0)) (lC BB d).length (lC BB d).length (lC BB d) pb.src hld BM (by omega);have abw:=cQ.trans (bd.mono cQ.size);have Ud:=(abw.block w.heap.size (by omega)).trans U8;obtain⟨z2,ff,xK,dZ,VM⟩:=eQ (bM Ud) i5 pb abw Ud;clear Jg cI bd i5 pb abw Ud e01;unfold Ak at sT;have HPu:=(λ(V4:World) (ts2:List PT) (c2:Nat) (ga:Nat) (hw:W5 V4 q F P F2 X O p r s S S c2 v1 v2 v3 v4 ss ts2 rs us) (be:ay V4 5 ga (lC BB d).length (bs (lC BB d)))=>SB hw.rw.e (hw.rw.jU Y) (hw.rw.px H BV) Z (some (aD ga 0)) (lC BB d).length (lC BB d).length (lC BB d) be.src hld BM (by omega) (by omega));unfold fL at HPu;rw [k2,k3] at HPu;generalize akQ:J.T.put I.G S Z (lC BB d)=Pu at*;clear akQ;go_wp2_with fail;refine sT.mono ?_;rintro e V3 ⟨rfl,IR,O3,hd3,aZ⟩;have pi:aa (λg=>F g\/P g) C V3:=aZ.mono (λg a=>by rcases a with a|a|a;exact .inl a;exact .inr (a▸pt);exact .inr (a▸pn'));have io:=ff.prog (ff.pw.afM D Q IR O3 nA.2.2 hd3 aZ) pi (λg h=> .inl h) rfl (gk (f:=λJ:PT=>pV J.t) Q rfl);have Ue:=(pi.block w.heap.size (aq VM) (λv=>uv (E _ (by rcases v with v|v;exact .inl v;exact .inr (.inl v))))).trans VM;have rV:=xK.agree (pi.block g1 xK.lt (λv=>by have:=FD g1 v;omega));obtain⟨y0,y1,y2,y3,y4,y5,y6,y7,y8⟩:=gU Ue;have Cn:=((aa.ah A uS).trans (aa.ah (λ_=>False) dZ) (λ_ h=>h.elim)).trans pi (λg a=> .inl (E g (by rcases a with a|a;exact .inl a;exact .inr (.inl a))));obtain⟨akR,HW3,VO,Jv,HA3,lq⟩:=jH (lS 4 ag Z BB da dn dc pa pn pc x y z d V3 (Yr V3 Cn) Eb) io Ue rV Cn (k9 dZ.size pi.size);clear sT IR O3 hd3 aZ pi io Ue rV Cn z2;have kw:=ai (bi V3.heap.size V3);have afP:=lS 4 ag Z BB da dn dc pa pn pc x y z d V3.drew (Yr V3.drew (HA3.trans (aa.ah (λ_=>False) kw) (λ_ h=>h.elim))) Eb;have te:=kw;have hzd:V3.drew.heap.size=V3.heap.size:=rfl;clear akR kw;go_wp2_with fail;go_region_held3 (λw'=>w'.cell? (aD w.heap.size 0)=some (iV 4)/\w'.cell? (aD w.heap.size 1)=some (iV ag)/\w'.cell? (aD w.heap.size 2)=some (iV Z)/\w'.cell? (aD w.heap.size 3)=some (iV BB)/\w'.cell? (aD w.heap.size 4)=some (.slice da dn dc)/\w'.cell? (aD w.heap.size 5)=some (.slice pa pn pc)/\w'.cell? (aD w.heap.size 6)=some (iV x)/\w'.cell? (aD w.heap.size 7)=some (iV y)/\w'.cell? (aD w.heap.size 8)=some (iV z))
    (first|exact⟨y0,y1,y2,y3,y4,y5,y6,y7,y8⟩|exact HZ4|exact HZ5)
    (first
     |(go_at_call 80;refine afP.mono ?_;rintro e V4 ⟨g4',rfl,GE,M2,nY⟩;have eJ:=te.trans (nY.mono (bR _));have xN:=HW3.later eJ;have xn:=HPu V4 _ _ g4' xN M2;have YQ:=(eJ.block w.heap.size (aq VO)).trans VO;have HZ4:=(gU YQ);have Ji:=xN;have X0:=YQ;have jZ:=eJ)
     |(go_at_call 82;refine xn.mono ?_;rintro e V5 ⟨rfl,⟨tv',K1,Xy,afQ⟩,dX⟩;have HZ5:=(gU ((dX.block w.heap.size (aq X0) (λv=>uv (E _ (.inr (.inr (.inr (.inl (by rcases v with v|v;exact v▸(Ji.rw.px H BV).xt;exact(Ji.rw.px H BV).pl.row _ v)))))))).trans X0))))
   obtain⟨VX,HA4,vt,i6⟩:=cP ((Jv.agree (jZ.block g1 Jv.lt))) ((HA3.trans (aa.ah (λ_=>False) jZ) (λ_ h=>h.elim))) jZ.size (Ji.rw.px H BV);have afR:=Ji.rw.LC BV H (K':={K with T:=Pu.2,tv:=tv',us:=K1}) rfl rfl (X':=more X V4 V5) (λg h=> .inl h) (λg h=>h) (by rw [k3];exact Xy) afQ dX (λg a=>a.elim (λh=>iL (Ji.rw.lt g h) dX.size) (λh=>h.2));have mZ:aa (λg=>F2 g\/X g) V4 V5:=dX.mono (λg e=> .inr (by rcases e with e|e;exact e▸i6.xt;exact i6.pl.row g e));have Qa:=Ji.doc afR mZ (λg h=> .inl h) (λg h=>h) rfl (gk (f:=λJ:RJ=>pV J.u) H rfl);have hL5:=U.upd (I':=I) (R':=R) (J':={J with T:=Pu.2}) (K':={K with T:=Pu.2,tv:=tv',us:=K1}) (M:=N+2) D Y Q H rfl rfl rfl rfl rfl k3 rfl (.inl ⟨nA.1,rfl⟩) (by omega) (by rw [mR D];exact U.inv.more (by omega)) (by omega) (λhe=>by
    have YR:=nA.1.symm.trans he;have a0:=U.ct J.i R K Y (gB H) k1 (by rw [k2];exact YR);have a3:=i6.pu (by rw [k2];exact YR);have a5:=nA.2.1;rw [(Xy.pu he),qF (ms:= []) rZ Xy.nd (λ_ _=>rfl),<-k2,a3,(qF (ms:= []) rZ i6.nd (λ_ _=>rfl))] at a5;have a6:([]:CM).length=0:=rfl;show R.ps.length+K1.length<=_;omega) (.inl rfl) rfl
   rw [mR D,mR Y] at hL5;have YS:=(mZ.block w.heap.size (aq X0) (λv=>uv (E _ (by rcases v with v|v;exact .inr (.inr (.inl v));exact .inr (.inr (.inr (.inl v))))))).trans X0;have YT:=VX.agree (mZ.block g1 VX.lt (λv=>by have:=HXl g1 v;omega));obtain⟨y0,y1,y2,y3,y4,y5,y6,y7,y8⟩:=gU YS;have abx:=HA4.trans mZ (λg a=> .inl (E g (by rcases a with a|a;exact .inr (.inr (.inl a));exact .inr (.inr (.inr (.inl a))))));obtain⟨afS,TT,HL5,HR5,HA5,pT⟩:=jH (lS 4 ag Z BB da dn dc pa pn pc x y z d V5 (Yr V5 abx) Eb) Qa hL5 YT abx mZ.size;clear xn Xy afQ dX i6 afR mZ Qa hL5 YS YT abx;go_wp2_with fail;refine afS.mono ?_;rintro e V6 ⟨g6,rfl,hg6,wQ,nL⟩;have lG:=pD (some (aD g1 0)) (some (aD g6 0)) (lC BB d).length (lC BB d).length (lC BB d).length (lC BB d) V6 hld (HR5.agree (nL.block g1 HR5.lt)).src wQ.src;have xG:=nL;clear afS wQ nL y0 y1 y2 y3 y4 y5 y6 y7 y8;go_wp2_with fail;refine bJ lG λV7 xI=>?_;have aby:=xG.trans (xI.mono xG.size);have hW7:=TT.later aby
   obtain⟨IS,e07,HW7,FH⟩:=cP (B.rl hW7.pw.d (by omega) (by omega)) hW7.c0 hW7 aby
   clear lG xI aby hW7;go_wp2_with fail;refine IS.mono ?_;rintro e V8 ⟨r8,rfl,hr8,oV,AB⟩;have hW8:=HW7.prog (HW7.pw.lB (λg h=> .inl h) oV (aa.ah F AB)) (aa.ah _ AB) (λg h=> .inl h) rfl rfl;have d6:(r8:Int)<=(rr:Int)+1:=(by omega);have akT:=uS.size;have HF:(ew w V8 q A p r s N):=⟨λg=>A g\/w.heap.size<=g,⟨F,P,F2,more X V4 V5,O,S,r8,v1,v2,v3,v4,ss,_,rs,_,hW8,HL5,λg a=>(by
     rcases a with a|a|a|(a|a)|a
     .exact .inl (E g (.inl a))
     .exact .inl (E g (.inr (.inl a)))
     .exact .inl (E g (.inr (.inr (.inl a))))
     .exact .inl (E g (.inr (.inr (.inr (.inl a)))))
     .exact .inr (by omega)
     .exact .inl (E g (.inr (.inr (.inr (.inr a)))))),by omega,by rw [List.length_set];omega,by omega⟩,(HA5.trans (aa.ah (λ_=>False) FH) (λ_ h=>h.elim)).trans (aa.ah (λ_=>False) AB) (λ_ h=>h.elim),λ_ h=>h⟩
   clear IS oV AB hW8;go_wp2;go_ret;exact⟨by simp,HF⟩
  .have Ju:∀(x0 x1 x2 x3 x4:Int) (wx:World),(Instr.field 65 (.agg #[iV x0,iV x1,iV x2,iV x3,iV x4]) 0).run prog wx= .ok (iV x0) wx:=λ_ _ _ _ _ _=>by kernel_rfl
   have e0:=fT.c0;have ME:=U.inv.p6;have mv:=U.cs R (gB Y);have Jg:=B.rl fT.pw.d (by omega) (by omega);have mX:J.T.refusal I.G S Z=0->(J.T.j3 I.G S Z.toNat).length=512:=λhz=>by
    obtain⟨_,_,_,h4,h5⟩:=iY hz;exact Ah (fT.pw.Fc D) (fT.pw.LA Q D) Z.toNat (by omega)
   by_cases qc:J.T.refusal I.G S Z=0
   .have ar0:=mX qc;go_wp2_with fail;refine Jg.mono ?_;rintro e C ⟨rr,rfl,Jl,cI,bd⟩;have i5:=fT.prog (fT.pw.lB (λg h=> .inl h) cI (aa.ah F bd)) (aa.ah _ bd) (λg h=> .inl h) rfl rfl;obtain⟨wK,e42,abz,ff,dZ⟩:=eQ (Ey (i5.pw.Fc D) (i5.pw.LA Q D) Z (by omega)) (dC (aa.ah (λ_=>False) bd) (λh=>h) e4) (dC (aa.ah (λ_=>False) bd) (λh=>h) dV2) i5 bd;clear Jg cI bd i5;go_wp2_with fail;refine wK.mono ?_;rintro e V3 ⟨ho,hd3,aZ⟩;unfold vM at ho;rw [aB (λh=>h qc)] at ho;obtain⟨g3',rfl,ar2,aV⟩:=ho;have Uf:=ff.pw.lB (λg h=> .inl h) hd3 aZ;have hkF:aa (λg=>F g\/P g) C V3:=aZ.mono (λg h=> .inl h);have io:=ff.prog Uf hkF (λg h=> .inl h) rfl rfl;have mU:=Aw io.rw.e (io.rw.jU Y) (io.rw.px H BV) Z (by omega) (by omega);rw [k2,k3] at mU;have akU:=dC aZ (λv=>uv (E _ (.inl v))) abz;have HW3:=io;have lW:=aZ;clear wK hd3 aZ Uf hkF io;go_wp2_with fail;refine mU.mono ?_;rintro e V4 ⟨ho,eJ⟩;unfold rp at ho;rw [aB (λh=>h qc)] at ho;obtain⟨g4',rfl,ar3,xn⟩:=ho;have lG:=pD (some (aD g3' 0)) (some (aD g4' 0)) 512 512 512 (J.T.j3 I.G S Z.toNat) V4 (by omega) (by
     have h9:=(aV.aw (eJ.block g3' aV.lt)).src (o:=0) (n:=512) (by omega);rwa [List.drop_zero,nC (by omega)] at h9) (by have h9:=xn.src;rwa [mX qc] at h9)
    have jZ:=eJ;have Ji:=HW3.later eJ;clear mU eJ;go_wp2_with fail;refine bJ lG λV5 fd=>?_;have Qa:=Ji.later fd;obtain⟨IS,e05,TT,jr⟩:=cP (B.rl Qa.pw.d (by omega) (by omega)) Qa.c0 Qa fd;clear lG fd Qa;go_wp2_with fail;refine IS.mono ?_;rintro e V6 ⟨r6,rfl,Jc,pK,nL⟩;have FA:=TT.prog (TT.pw.lB (λg h=> .inl h) pK (aa.ah F nL)) (aa.ah _ nL) (λg h=> .inl h) rfl rfl;have d6:(r6:Int)<=(rr:Int)+1:=(by omega);have HF:(ew w V6 q A p r s N):=⟨A,⟨F,P,F2,X,O,S,r6,v1,v2,v3,v4,ss,ts,rs,us,FA,U.more (by omega),E,by omega,by omega,by omega⟩,((((((aa.ah A uS).trans (aa.ah (λ_=>False) dZ) (λ_ h=>h.elim)).trans lW (λg a=> .inl (E g (.inl a)))).trans (aa.ah (λ_=>False) jZ) (λ_ h=>h.elim)).trans (aa.ah (λ_=>False) jr) (λ_ h=>h.elim)).trans (aa.ah (λ_=>False) nL) (λ_ h=>h.elim)),λ_ h=> .inl h⟩;clear IS pK nL FA;go_wp2;go_ret;exact⟨by simp,HF⟩
   .have hqq:=qc;go_wp2_with fail;refine Jg.mono ?_;rintro e C ⟨rr,rfl,Jl,cI,bd⟩;have i5:=fT.prog (fT.pw.lB (λg h=> .inl h) cI (aa.ah F bd)) (aa.ah _ bd) (λg h=> .inl h) rfl rfl;obtain⟨wK,e42,abz,ff,dZ⟩:=eQ (Ey (i5.pw.Fc D) (i5.pw.LA Q D) Z (by omega)) (dC (aa.ah (λ_=>False) bd) (λh=>h) e4) (dC (aa.ah (λ_=>False) bd) (λh=>h) dV2) i5 bd;clear Jg cI bd i5;go_wp2_with fail;refine wK.mono ?_;rintro e V3 ⟨ho,hd3,aZ⟩;unfold vM at ho;rw [aG qc] at ho;subst ho;have Uf:=ff.pw.lB (λg h=> .inl h) hd3 aZ;have hkF:aa (λg=>F g\/P g) C V3:=aZ.mono (λg h=> .inl h);have io:=ff.prog Uf hkF (λg h=> .inl h) rfl rfl;have mU:=Aw io.rw.e (io.rw.jU Y) (io.rw.px H BV) Z (by omega) (by omega);rw [k2,k3] at mU;have akU:=dC aZ (λv=>uv (E _ (.inl v))) abz;have HW3:=io;have lW:=aZ;clear wK hd3 aZ Uf hkF io;go_wp2_with fail;refine mU.mono ?_;rintro e V4 ⟨ho,eJ⟩;unfold rp at ho;rw [aG qc] at ho;subst ho;have lG:Calls prog 21 #[.slice none 0 0, .slice none 0 0] V4 λe w'=>e= .returned (.bool true)/\bW V4 w':=(Cr none none 0 0 V4).mono (by rintro e w' ⟨rfl,rfl⟩;exact⟨rfl,bi _ _⟩);have jZ:=eJ;have Ji:=HW3.later eJ;clear mU eJ;go_wp2_with fail;refine bJ lG λV5 fd=>?_;have Qa:=Ji.later fd;obtain⟨IS,e05,TT,jr⟩:=cP (B.rl Qa.pw.d (by omega) (by omega)) Qa.c0 Qa fd;clear lG fd Qa;go_wp2_with fail;refine IS.mono ?_;rintro e V6 ⟨r6,rfl,Jc,pK,nL⟩;have FA:=TT.prog (TT.pw.lB (λg h=> .inl h) pK (aa.ah F nL)) (aa.ah _ nL) (λg h=> .inl h) rfl rfl;have d6:(r6:Int)<=(rr:Int)+1:=(by omega);have HF:(ew w V6 q A p r s N):=⟨A,⟨F,P,F2,X,O,S,r6,v1,v2,v3,v4,ss,ts,rs,us,FA,U.more (by omega),E,by omega,by omega,by omega⟩,((((((aa.ah A uS).trans (aa.ah (λ_=>False) dZ) (λ_ h=>h.elim)).trans lW (λg a=> .inl (E g (.inl a)))).trans (aa.ah (λ_=>False) jZ) (λ_ h=>h.elim)).trans (aa.ah (λ_=>False) jr) (λ_ h=>h.elim)).trans (aa.ah (λ_=>False) nL) (λ_ h=>h.elim)),λ_ h=> .inl h⟩;clear IS pK nL FA;go_wp2;go_ret;exact⟨by simp,HF⟩
  .have bj:=nV (fT.pw.Fc D) (fT.pw.LA Q D);have LR:=λ(C:World) (hb:bW V C)=>ku (fT.later hb).rw.e ((fT.later hb).rw.jU Y) ((fT.later hb).rw.px H BV).tx;rw [k2,k3] at LR;have OQ:=LR;clear LR;go_wp2_with fail;refine bJ bj λC bd=>?_;have fB:=OQ C bd;have dZ:=bd;clear bj bd;go_wp2_with fail;refine bJ fB λV3 bz=>?_;have fS:=(dZ.trans (bz.mono dZ.size));clear fB bz;go_wp2;go_ret;exact⟨by simp,ew.idle (fT.later fS) U E h1 h2 hc (uS.trans (fS.mono uS.size))⟩
  .have hsp:=C6 (fT.pw.Fc D) (fT.pw.LA Q D) Z;have HSp:=(λ(C:World) (hw:W5 C q F P F2 X O p r s S S c v1 v2 v3 v4 ss (ts.set j {J with T:=(J.T.mM I.G S Z).2}) rs us)=>KO hw.rw.e (hw.rw.jU Y) (hw.rw.px H BV).tx Z);have lO:(J.T.mM I.G S Z).2.ended=J.T.ended/\(J.T.mM I.G S Z).2.puts=J.T.puts:=by
    unfold TG.mM;split
    .exact⟨rfl,rfl⟩
    .split <;> exact⟨rfl,rfl⟩
   rw [k2,k3] at HSp;generalize J.T.mM I.G S Z=Sp at*;go_wp2_with fail;refine fQ hsp λC bd Jn=>?_;have A5:=fT.pw.LA Q D;have aY:aa (λg=>g=J.t\/g=J.n) V C:=Jn.mono (λ_ h=> .inl h);have oe:=fT.pw.LC D Q (T':=Sp.2) bd (by rw [lO.2];exact A5.ch.aw Jn (λe=>A5.tn e.symm)) (by rw [lO.2];exact A5.kb) aY;obtain⟨_,_,_,_,⟨pt,pn'⟩,_⟩:=fT.pw.tx J (gB Q);have pi:aa (λg=>F g\/P g) V C:=Jn.mono (λg e=> .inr (e▸pt));have i5:=fT.prog oe pi (λg a=> .inl a) rfl (gk (f:=λJ:PT=>pV J.t) Q rfl);have fB:=HSp C i5;have ar5:=dC pi (λv=>uv (E _ (by rcases v with v|v;exact .inl v;exact .inr (.inl v)))) dV2;have ff:=i5;have ii:=pi;clear hsp bd Jn aY oe pi i5;go_wp2_with fail;refine fQ fB λV3 bz aZ=>?_;have i6:=ff.rw.px H BV;have og:=ff.rw.LC BV H (K':={K with T:=Sp.2}) rfl rfl (λg h=>h) (λg h=> .inl h) ⟨bz,i6.xt,i6.pl.other i6.tx (by decide) (by decide) aZ,i6.nd,λhe=>by
    show Sp.2.puts=_;rw [lO.2,<-k2];exact i6.pu (by rw [k2,<-lO.1];exact he),i6.kb,i6.Ez⟩ (.inl rfl) (aZ.mono (λ_ h=> .inl h)) (λg a=>iL (ff.rw.lt g a) aZ.size)
   have mZ:aa (λg=>F2 g\/X g) C V3:=aZ.mono (λg e=> .inr (e▸i6.xt));have io:=ff.doc og mZ (λg h=> .inl h) (λg h=> .inl h) rfl (gk (f:=λJ:RJ=>pV J.u) H rfl);have M8:=U.LC (J':={J with T:=Sp.2}) (K':={K with T:=Sp.2}) Q H rfl rfl rfl rfl lO.1 (by show K.us.length<=_;omega);have uV:=((aa.ah A uS).trans ii (λg a=> .inl (E g (by rcases a with a|a;exact .inl a;exact .inr (.inl a))))).trans mZ (λg a=> .inl (E g (by rcases a with a|a;exact .inr (.inr (.inl a));exact .inr (.inr (.inr (.inl a))))));have HF:(ew w V3 q A p r s N):=⟨A,⟨F,P,F2,X,O,S,c,v1,v2,v3,v4,ss,_,rs,_,io,M8.more (by omega),E,by omega,by rw [List.length_set];omega,by omega⟩,uV,λ_ h=> .inl h⟩;clear fB bz aZ i6 og mZ io M8 uV;go_wp2;go_ret;exact⟨by simp,HF⟩
  .by_cases qs:J.T.state I.G S=0
   .obtain⟨ME,dO,j4,A5,ve,i6,mv⟩:=nD U.inv.p6 U.inv.qi (fT.pw.Fc D) (fT.pw.LA Q D) (fT.rw.jU Y) (fT.rw.px H BV) (U.cs R (gB Y));have hi:(ss.map (λI=>I.G.L))[J.i]? =some I.G.L:=(by rw [BE,D];rfl);have Xz:∀q∈I.G.ov,I.G.y.home+q.1<s/\q.2.length=512/\Bytes q.2:=λx v=>by
     have a1:=j4.kb x v;have a2:=j4.hs;exact⟨by omega,(j4.ch.len x v).2⟩
    have B8:I.G.L.f+2+I.G.L.n<=I.G.y.home:=(by have:=ve.lh;rw [k3] at this;exact this);have fE:=λhu=>by
     obtain⟨hd,hb⟩:=Dw hu;obtain⟨ha,hf⟩:=LE hd;exact((U.inv.al I.G.L (gB hi) ha hf).1 hb).2
    obtain⟨f1,hinv,dD,lO,f5⟩:=Cl (T:=J.T) U.inv hi j4.bg Xz j4.ch.small B8 (λx v=>(A5.ch.len x v).2.2) qs;have Fd:=Lx (T:=J.T) (G:=I.G) (S:=S) (s:=s) (λx v=>(Xz x v).1) (by have:=j4.lk.n1;omega) (by have:=j4.lk.s;omega);have UV:J.T.puts.length<=16:=by
     have a1:=i6.pu (by rw [k2];exact lO);have a3:=i6.Ez;rw [<-k2,a1,(qF (ms:= []) rZ i6.nd (λ_ _=>rfl))];show 0+_<=_;omega
    have Wo:=U.ct J.i R K Y (gB H) k1 (by rw [k2];exact lO);have Ex:=KV j4 A5 UV dO (by omega);have HCm:=(λ(C:World) (F3:Nat->Prop) (S':DS) (c2:Nat) (XA:List PI) (ts2:List PT) (hw:W5 C q F3 P F2 X O p r s S' S c2 v1 v2 v3 v4 XA ts2 rs us)=>If hw.rw.e (hw.rw.jU Y) (hw.rw.px H BV) (hw.rw.r3 R (gB Y) K (gB H)) dO (by rw [k3];exact fE) (by omega) (by omega));have HI2:=hinv;have abA:=dD;rw [k3,k2] at HCm;unfold St at Ex;unfold ip at HCm;have hPu:(J.T.bK I.G S s).2.2.2.ended=J.T.ended/\(J.T.bK I.G S s).2.2.1.busy=I.G.busy\/J.T.ended=false/\(J.T.bK I.G S s).2.2.2.ended=true/\(J.T.bK I.G S s).2.2.1.busy=false:=f5.imp (λh=>⟨by rw [h.1],h.2⟩) (λh=>⟨lO,by rw [h.1];rfl,h.2⟩);clear hinv dD Xz B8 fE ve dO i6 f5 qs UV;generalize J.T.bK I.G S s=Cm at*;go_wp2_with fail;refine Ex.mono ?_;rintro e C ⟨rfl,⟨lz,Ax⟩,aY⟩;obtain⟨_,_,_,⟨pq,pl,pm⟩,_⟩:=fT.pw.st I (gB D);obtain⟨_,_,_,_,⟨pt,pn'⟩,_⟩:=fT.pw.tx J (gB Q);have oe:=fT.pw.on D Q rfl (G':=Cm.2.2.1) (T':=Cm.2.2.2) f1 (λg h=>h) lz Ax.tx Ax.ch Ax.kb (aY.mono (λg a=>by rcases a with a|a|a|a|a|a;exact .inl a;exact .inr (.inr (.inl a));exact .inr (.inr (.inr (.inl a)));exact .inr (.inr (.inr (.inr (.inl a))));exact .inr (.inr (.inr (.inr (.inr a))));exact .inr (.inl a)));have pi:aa (λg=>F g\/P g) V C:=aY.mono (λg a=>by rcases a with a|a|a|a|a|a;exact .inl a;exact .inr (a▸pl);exact .inr (a▸pm);exact .inr (a▸pt);exact .inr (a▸pn');exact .inr (a▸pq));have i5:=fT.prog oe pi (λg h=>h) (gk (f:=λI:PI=>pV I.q) D rfl) (gk (f:=λJ:PT=>pV J.t) Q rfl);have fB:=HCm C _ _ _ _ _ i5;have ff:=i5;have ii:=pi;clear Ex lz Ax aY oe pi i5 j4 A5;go_wp2_with fail;refine fB.mono ?_;rintro e V3 ⟨F4,X4,pv',ps',hm',rfl,hF4,hX4,hX5,yD,vY,IR,⟨iq,jg⟩,Qm,aZ⟩;have ve:=ff.rw.jU Y;have i6:=ff.rw.px H BV;have og:=ff.rw.on Y H k1 (I':={R with G:=Cm.2.2.1,pv:=pv',ps:=ps',hm:=hm'}) (J':={K with T:=Cm.2.2.2}) rfl rfl (f1.trans (by rw [k3])) rfl rfl yD hX5 hX4 vY IR Qm (.inl rfl) (λg a v=>by
     rcases Qm with Qm|Qm
     .have RP:pv'.ownBlock=some g:=a;rw [Qm] at RP;exact ff.rw.r3 R (gB Y) K (gB H) g RP v
     .have a1:=Qm g a;have a2:=ff.rw.lt g (i6.pl.row g v);omega) (aZ.mono (λg a=>by rcases a with a|a|a|a|a;exact .inl a;exact .inr (.inl a);exact .inr (.inr (.inl a));exact .inr (.inr (.inr (.inl a)));exact .inr (.inr (.inr (.inr (.inl a)))))) (abA.imp id (λh n M hM dM=>by
     obtain⟨A',hA'⟩:∃A',ss[n]? =some A':=⟨ss[n]'(by rw [<-U.sl];exact(mS.1 hM).1),qQ _⟩;have:=h n A'.G.L (by rw [BE,hA'];rfl) dM;rw [U.sg n A' M hA' hM];exact this))
    have mZ:aa (λg=>F2 g\/X g) C V3:=aZ.mono (λg a=>by rcases a with a|a|a|a|a;exact .inl a;exact .inr (a▸ve.xk);exact .inr (a▸ve.xl);exact .inr (a▸i6.xt);exact .inr (ve.pl.row g a));have M8:=U.upd (I':={I with G:=Cm.2.2.1}) (R':={R with G:=Cm.2.2.1,pv:=pv',ps:=ps',hm:=hm'}) (J':={J with T:=Cm.2.2.2}) (K':={K with T:=Cm.2.2.2}) (M:=N+2) D Y Q H rfl rfl rfl rfl rfl rfl rfl hPu (by omega) (by rw [List.map_set];exact HI2.more (by omega)) (by show ps'.length<=_;omega) (λhe=>by
     have a1:=jg he;subst a1;show R.ps.length+K.us.length<=_;omega) (.inr lO) Fd
    have uV:=((aa.ah A uS).trans ii (λg a=> .inl (E g (by rcases a with a|a;exact .inl a;exact .inr (.inl a))))).trans mZ (λg a=> .inl (E g (by rcases a with a|a;exact .inr (.inr (.inl a));exact .inr (.inr (.inr (.inl a))))));have eM:=uS.size;have jD:=ii.size;have HF:(ew w V3 q A p r s N):=⟨λg=>A g\/w.heap.size<=g,⟨more F V C,P,F4,X4,O,_,c+40,v1,v2,v3,v4,_,_,_,_,ff.doc og mZ hF4 hX4 (gk (f:=λI:RI=>pV I.k) Y rfl) (gk (f:=λJ:RJ=>pV J.u) H rfl),M8,λg a=>(by
     rcases a with (a|a)|a|a|a|a
     .exact .inl (E g (.inl a))
     .exact .inr (by omega)
     .exact .inl (E g (.inr (.inl a)))
     .rcases hF4 g a with a|a
      .exact .inl (E g (.inr (.inr (.inl a))))
      .exact .inr (by omega)
     .rcases hX4 g a with a|a
      .exact .inl (E g (.inr (.inr (.inr (.inl a)))))
      .exact .inr (by omega)
     .exact .inl (E g (.inr (.inr (.inr (.inr a)))))),by rw [List.length_set];omega,by rw [List.length_set];omega,by omega⟩,uV,λ_ h=>h⟩
    clear fB hF4 hX4 hX5 yD vY IR iq jg Qm aZ og mZ M8 uV;go_wp2;go_ret;exact⟨by simp,HF⟩
   .have Ex:=Pp (fT.pw.Fc D) (fT.pw.LA Q D) qs;have LR:=λ(C:World) (hb:bW V C)=>LF (fT.later hb).rw.e ((fT.later hb).rw.jU Y) ((fT.later hb).rw.px H BV) (by rw [k2,k3];exact qs);rw [k2,k3] at LR;have OQ:=LR;clear LR qs;go_wp2_with fail;refine bJ Ex λC bd=>?_;have fB:=OQ C bd;have dZ:=bd;clear Ex bd;go_wp2_with fail;refine bJ fB λV3 bz=>?_;have fS:=dZ.trans (bz.mono dZ.size);clear fB bz;go_wp2;go_ret;exact⟨by simp,ew.idle (fT.later fS) U E h1 h2 hc (uS.trans (fS.mono uS.size))⟩
  .have oN:=Oq (fT.pw.Fc D) (fT.pw.LA Q D);have HAb:=(λ(C:World) (G2:SG) (XA:List PI) (ts2:List PT) (hw:W5 C q F P F2 X O p r s S S c v1 v2 v3 v4 XA ts2 rs us)=>KP hw.rw.e (hw.rw.jU Y) (hw.rw.px H BV).tx);have akY:(J.T.abort I.G S).2.2.y=I.G.y/\(J.T.abort I.G S).2.2.L=I.G.L/\(J.T.abort I.G S).2.2.ov=I.G.ov/\((J.T.abort I.G S).2.1.puts=J.T.puts\/(J.T.abort I.G S).2.1.puts= [])/\(((J.T.abort I.G S).2.1=J.T/\(J.T.abort I.G S).2.2.busy=I.G.busy)\/(J.T.ended=false/\(J.T.abort I.G S).2.1.ended=true/\(J.T.abort I.G S).2.2.busy=false)):=by
    unfold TG.abort;by_cases qo:J.T.bU I.G S≠0
    .rw [aG qo];exact⟨rfl,rfl,rfl, .inl rfl, .inl ⟨rfl,rfl⟩⟩
    .rw [aB qo];refine⟨rfl,rfl,rfl, .inr rfl, .inr ⟨?_,rfl,rfl⟩⟩;unfold TG.bU at qo;cases he:J.T.ended
     .rfl
     .rw [he] at qo;exfalso;apply qo;split <;> decide
   rw [k2,k3] at HAb;obtain⟨f1,f2,f3,f4,f5⟩:=akY;generalize J.T.abort I.G S=Ab at*;go_wp2_with fail;refine oN.mono ?_;rintro e C ⟨rfl,bd,BP,br,Jn⟩;have j4:=fT.pw.Fc D;have A5:=fT.pw.LA Q D;obtain⟨_,_,_,⟨pq,pl,pm⟩,_⟩:=fT.pw.st I (gB D);obtain⟨_,_,_,_,⟨pt,pn'⟩,_⟩:=fT.pw.tx J (gB Q);have lz:iw C F p s c I.q I.l I.m S Ab.2.2:=⟨j4.d.aw Jn (λg a v=>by rcases v with v|v|v;exact A5.nt (v▸a);exact A5.nn (v▸a);exact j4.nq (v▸a)),by rw [f1];exact br,by rw [f2];exact j4.lp.aw Jn (λv=>by rcases v with v|v|v;exact A5.tl v.symm;exact A5.nl v.symm;exact j4.ql v.symm),by rw [f3];exact j4.ch.aw Jn (λv=>by rcases v with v|v|v;exact A5.tm v.symm;exact A5.nm v.symm;exact j4.qm v.symm),j4.nq,j4.nl,j4.nm,j4.ql,j4.qm,j4.lm,by rw [f2];exact j4.lk,by rw [f2];exact j4.bg,by rw [f1];exact j4.hs,by rw [f3,f1];exact j4.kb⟩;have oe:=fT.pw.on D Q rfl (G':=Ab.2.2) (T':=Ab.2.1) f1 (λg a=> .inl a) lz bd BP (λx v=>by
    rw [f1];rcases f4 with f4|f4
    .rw [f4] at v;exact A5.kb x v
    .rw [f4] at v;cases v) (Jn.mono (λg a=>by rcases a with a|a|a;exact .inr (.inr (.inr (.inr (.inl a))));exact .inr (.inr (.inr (.inr (.inr a))));exact .inr (.inl a)))
   have pi:aa (λg=>F g\/P g) V C:=Jn.mono (λg e=> .inr (by rcases e with e|e|e;exact e▸pt;exact e▸pn';exact e▸pq));have i5:=fT.prog oe pi (λg a=> .inl a) (gk (f:=λI:PI=>pV I.q) D rfl) (gk (f:=λJ:PT=>pV J.t) Q rfl);have fB:=HAb C Ab.2.2 _ _ i5;have ff:=i5;have ii:=pi;clear oN bd BP br Jn lz oe pi i5 j4;go_wp2_with fail;refine fQ fB λV3 bz aZ=>?_;have i6:=ff.rw.px H BV;have og:=ff.rw.LC BV H (K':={K with T:=Ab.2.1}) rfl rfl (λg h=>h) (λg h=> .inl h) ⟨bz,i6.xt,i6.pl.other i6.tx (by decide) (by decide) aZ,i6.nd,λhe=>(by
    show Ab.2.1.puts=_;rcases f5 with ⟨f6,_⟩|⟨_,f6,_⟩
    .rw [f6,<-k2];exact i6.pu (by rw [k2,<-f6];exact he)
    .have YR:Ab.2.1.ended=false:=he;rw [f6] at YR;cases YR),i6.kb,i6.Ez⟩ (.inl rfl) (aZ.mono (λ_ h=> .inl h)) (λg a=>iL (ff.rw.lt g a) aZ.size)
   have mZ:aa (λg=>F2 g\/X g) C V3:=aZ.mono (λg e=> .inr (e▸i6.xt));have io:=ff.doc (og.reG (G':=Ab.2.2) Y (by rw [f1,k3]) (by rw [f2,k3]) (by rw [f3,k3])) mZ (λg h=> .inl h) (λg h=> .inl h) (gk (f:=λI:RI=>pV I.k) Y rfl) (gk (f:=λJ:RJ=>pV J.u) H rfl);have mv:=U.cs R (gB Y);have YU:(ss.set J.i {I with G:=Ab.2.2}).map (λI=>I.G.L)=ss.map (λI=>I.G.L):=by
    rw [List.map_set];apply mR;rw [BE,D];show some I.G.L=some Ab.2.2.L;rw [f2]
   have M8:=U.upd (I':={I with G:=Ab.2.2}) (R':={R with G:=Ab.2.2}) (J':={J with T:=Ab.2.1}) (K':={K with T:=Ab.2.1}) (M:=N+2) D Y Q H rfl rfl rfl rfl rfl rfl rfl (f5.imp (λh=>⟨by show Ab.2.1.ended=_;rw [h.1],h.2⟩) id) (by omega) (by rw [YU];exact U.inv.more (by omega)) (by show R.ps.length<=_;omega) (λhe=>by
    rcases f5 with ⟨f6,_⟩|⟨_,f6,_⟩
    .have:=U.ct J.i R K Y (gB H) k1 (by rw [k2,<-f6];exact he);show R.ps.length+K.us.length<=_;omega
    .have YR:Ab.2.1.ended=false:=he;rw [f6] at YR;cases YR) (.inl rfl) rfl
   have uV:=((aa.ah A uS).trans ii (λg a=> .inl (E g (by rcases a with a|a;exact .inl a;exact .inr (.inl a))))).trans mZ (λg a=> .inl (E g (by rcases a with a|a;exact .inr (.inr (.inl a));exact .inr (.inr (.inr (.inl a))))));have HF:(ew w V3 q A p r s N):=⟨A,⟨F,P,F2,X,O,S,c,v1,v2,v3,v4,_,_,_,_,io,M8,E,by rw [List.length_set];omega,by rw [List.length_set];omega,by omega⟩,uV,λ_ h=> .inl h⟩;clear fB bz aZ i6 og mZ io M8 uV YU A5;go_wp2;go_ret;exact⟨by simp,HF⟩
  .have JJ:=Hi (fT.pw.Fc D).st (fT.pw.LA Q D);have OQ:=(λ(C:World) (hb:bW V C)=>aH ((fT.later hb).rw.jU Y).st ((fT.later hb).rw.px H BV).tx);go_wp2_with fail;refine bJ JJ λC bd=>?_;obtain⟨br,SE⟩:=OQ C bd;rw [k3] at br;have ir:=aJ C (.cells #[.int .i64 (I.G.y.log:Int), .int .i64 (I.G.y.home:Int), .int .i64 (I.G.y.blocks:Int), .int .i64 (I.G.y.nodes:Int), .int .i64 (I.G.y.data:Int)] 86);have Mr:=heap_alloc_new C (.cells #[.int .i64 (I.G.y.log:Int), .int .i64 (I.G.y.home:Int), .int .i64 (I.G.y.blocks:Int), .int .i64 (I.G.y.nodes:Int), .int .i64 (I.G.y.data:Int)] 86);have s0:=(SE.aw (aa.ah (λ_=>False) ir) (λh=>h)).c0;have fM:=br.later ir;have dZ:=(bd.trans (ir.mono bd.size));clear JJ bd br SE;go_wp2_with fail;generalize C.alloc (.cells #[.int .i64 (I.G.y.log:Int), .int .i64 (I.G.y.home:Int), .int .i64 (I.G.y.blocks:Int), .int .i64 (I.G.y.nodes:Int), .int .i64 (I.G.y.data:Int)] 86)=V3 at*;have HS:((λw':World=>w'.cell? (aD K.u 0)=some (pQ R.k)/\w'.cell? (aD C.heap.size 0)=some (iV (I.G.y.log:Int))/\w'.cell? (aD C.heap.size 1)=some (iV (I.G.y.home:Int))/\w'.cell? (aD C.heap.size 2)=some (iV (I.G.y.blocks:Int))/\w'.cell? (aD C.heap.size 3)=some (iV (I.G.y.nodes:Int))/\w'.cell? (aD C.heap.size 4)=some (iV (I.G.y.data:Int))/\w'.cell? (aD R.k 2)=some (iV (I.G.y.log:Int))/\w'.cell? (aD R.k 3)=some (iV (I.G.y.home:Int))/\w'.cell? (aD R.k 4)=some (iV (I.G.y.blocks:Int))/\w'.cell? (aD R.k 5)=some (iV (I.G.y.nodes:Int))/\w'.cell? (aD R.k 6)=some (iV (I.G.y.data:Int))) V3):=⟨s0,aM Mr,bG Mr,bM Mr,fU Mr,gH Mr,fM.c2,fM.c3,fM.c4,fM.c5,fM.c6⟩;clear fM ir Mr s0;go_region_held3 (λw'=>w'.cell? (aD K.u 0)=some (pQ R.k)/\w'.cell? (aD C.heap.size 0)=some (iV (I.G.y.log:Int))/\w'.cell? (aD C.heap.size 1)=some (iV (I.G.y.home:Int))/\w'.cell? (aD C.heap.size 2)=some (iV (I.G.y.blocks:Int))/\w'.cell? (aD C.heap.size 3)=some (iV (I.G.y.nodes:Int))/\w'.cell? (aD C.heap.size 4)=some (iV (I.G.y.data:Int))/\w'.cell? (aD R.k 2)=some (iV (I.G.y.log:Int))/\w'.cell? (aD R.k 3)=some (iV (I.G.y.home:Int))/\w'.cell? (aD R.k 4)=some (iV (I.G.y.blocks:Int))/\w'.cell? (aD R.k 5)=some (iV (I.G.y.nodes:Int))/\w'.cell? (aD R.k 6)=some (iV (I.G.y.data:Int))) (exact HS) (fail);go_wp2;go_ret;exact⟨by simp,ew.idle (fT.later dZ.drew) U E h1 h2 hc (uS.trans (dZ.drew.mono uS.size))⟩
end
end
section
section
variable {w w':World} {q:Nat} {F P F2 X O A:Nat->Prop} {p r s c N:Nat} {S:DS} {v1 v2 v3 v4:Value} {ss:List PI} {ts:List PT} {rs:List RI} {us:List RJ}
def Ff (h:W5 w q F P F2 X O p r s S S c v1 v2 v3 v4 ss ts rs us) (hl:Lk S s N ss ts rs us) (C:∀g,(F g\/P g\/F2 g\/X g\/O g)->A g) (mw:∀g,A g->g<w.heap.size) (h1:ss.length<=N) (h2:ts.length<=N) (hc:c<=5000*N) (hN:N<=3999999990000) (Y U AA BB:Int) (da:Option Addr) (dn dc:Nat) (pa:Option Addr) (pn pc:Nat) (x y z:Int) (AX:U<=9223372036854775807) (EV:Y=3\/Y=10\/Y=11):
  Calls prog 31 #[pV q, .agg (jG Y U AA BB da dn dc pa pn pc x y z)] w λe w'=>e= .returned (.bool true)/\ew w w' q A p r s N:=by
 obtain⟨W,hW⟩:=bP (w.alloc (.cells (jG Y U AA BB da dn dc pa pn pc x y z) 41));have E8:bW w W:=by rw [hW];exact(bi w.heap.size w).alloc (bR _) _
 have Ci:W.heap[w.heap.size]? =some (.cells (jG Y U AA BB da dn dc pa pn pc x y z) 41 (0,0)):=by rw [hW];exact heap_alloc_new _ _
 have Il:W.heap.size=w.heap.size+1:=by rw [hW,World.size_alloc]
 have uv:¬A w.heap.size:=λo=>by have:=mw _ o;omega
 obtain⟨a3,c3,hv3⟩:=AV h.o1;have TX:=h.later E8;have d0:W.cell? (aD w.heap.size 0)=some (iV Y):=aM Ci;have d1:W.cell? (aD w.heap.size 1)=some (iV U):=bG Ci;have e4:=TX.c2;have tF:=λk=>AU (W.drewN k) ss.length U AX (by omega);obtain⟨HW,D,De,MT⟩:=cP TX hl E8 Ci;rw [hv3] at e4;clear h hl TX E8 Ci;go_in;go_wp2_with fail;rw [<-hW];clear hW;go_quiet (first|(go_at_call 73;refine Calls.quiet_of_same (tF _)));rename_i nq _;have hq:bW W (W.drewN nq):=below_drewN (bi _ _) nq;have fT:=(HW.later hq);have uS:=(De.trans (hq.mono (by omega)));have YC:(W.drewN nq).heap.size=w.heap.size+1:=Il;have U8:=((hq.block w.heap.size (by omega)).trans MT);clear HW De MT tF hq d0 d1 e4 Il;generalize W.drewN nq=V at*;have dV0:V.cell? (aD w.heap.size 0)=some (iV Y):=aM U8;have dV2:V.cell? (aD w.heap.size 2)=some (iV AA):=bM U8;have e4:=fT.c2;have e5:=fT.c3;by_cases q0:ss.length=0
 .have fR:bk ss.length U= -1:=by unfold bk;rw [aG q0]
  rw [fR];go_wp2;go_ret;exact⟨rfl,ew.idle fT D C h1 h2 hc uS⟩
 .obtain⟨j,hj,YJ⟩:=TW (show 0<ss.length by omega) U;rw [YJ];have Zt:¬(j:Int)<0:=by omega
  have Y0:(j:Int)<(ss.length:Int):=by omega
  obtain⟨I,H⟩:∃I,ss[j]? =some I:=⟨ss[j],qQ hj⟩;obtain⟨R,E⟩:∃R,rs[j]? =some R:=⟨rs[j]'(by rw [D.sl];exact hj),qQ _⟩;have Q:=D.sg j I R H E;obtain⟨g3,cp3,TY,t3⟩:=wi (i:=j) fT.o1 (by rw [BE,H];rfl);obtain⟨g4,cp4,TZ,t4⟩:=wi (i:=j) fT.o2 (by rw [BE,E];rfl);rw [TY] at e4;rw [TZ,D.sl] at e5;clear YJ q0;rcases EV with rfl|rfl|rfl
  .have FD:=fT.under;by_cases hz:I.G.begin S=0
   .have Wf:=LJ hz;have vO:=(sX (fT.pw.Fc H)).mono (λe w' h=>by unfold sW at h;rw [aB (λh=>h hz)] at h;exact h);have WR:=(λ(v:World) (XA:List PI) (J:W5 v q F P F2 X O p r s S S c v1 v2 v3 v4 XA ts rs us)=>(Ai (G:=I.G) J.rw.e (by rw [<-Q];exact(J.rw.jU E).st) (by rw [<-Q];exact(J.rw.jU E).lp) (J.nowAt D H E)).mono (λe w' h=>by unfold yw at h;rw [aB (λh=>h hz)] at h;exact h));clear hz;go_wp2_with fail;refine vO.mono ?_;rintro e v ⟨t,n,rfl,lJ,SE,TD,Ax,td,lz,aY⟩;obtain⟨_,_,_,⟨pq,pl,pm⟩,_⟩:=fT.pw.st I (gB H);have j4:=fT.pw.Fc H;have Ug:iw v F p s c I.q I.l I.m S {I.G with busy:=true}:=⟨j4.d.aw aY (λg a e=>j4.nq (e▸a)),lz,j4.lp.aw aY (λe=>j4.ql e.symm),j4.ch.aw aY (λe=>j4.qm e.symm),j4.nq,j4.nl,j4.nm,j4.ql,j4.qm,j4.lm,j4.lk,j4.bg,j4.hs,j4.kb⟩;have oe:=fT.pw.onS H (G':={I.G with busy:=true}) rfl (λg h=> .inl h) Ug (aY.mono (λg e=> .inr (.inl e)));have pi:aa (λg=>F g\/P g) V v:=aY.mono (λg e=> .inr (e▸pq));have i5:=fT.prog oe pi (λg h=> .inl h) (gk (f:=λI:PI=>pV I.q) H rfl) rfl;obtain⟨fB,ff,ii,HT2,Z9,Ay,mu⟩:=nD (WR v _ i5) i5 pi Ax td (aq Ax) td.lt;clear vO Ax td lz aY j4 Ug oe pi i5;go_wp2_with fail;refine fB.mono ?_;rintro e T ⟨u,rfl,hu3,abB,afV,aZ⟩;have ve:=ff.rw.jU E;have hRk:=FD _ (.inr (.inr (.inr (.inl ve.xk))));have og:=ff.rw.onS E (I':={R with G:={I.G with busy:=true},nv:=pV u}) rfl rfl (by rw [Q]) (ff.rw.e.aw aZ (λg a e=>ff.rw.fO g (e▸ve.xk) a)) (by
     have a:=ve;rw [Q] at a;exact⟨afV,a.lp.aw aZ (λe=>db a.lp a.st (by decide) e),a.pl.aw aZ (λg e o=>a.pl.ne e a.st (by decide) o) (λg c ys o hr e=>hr.ne a.st (by decide) e),a.xk,a.xl,a.fO,λg o=>iL (a.lt g o) aZ.size,a.lk,a.bg,a.hs,a.lh,a.ov,a.hm,a.kb,a.un⟩) rfl (aZ.mono (λg e=> .inr (.inl e))) (.inl rfl)
    have mZ:aa (λg=>F2 g\/X g) v T:=aZ.mono (λg e=> .inr (e▸ve.xk));have io:=ff.doc og mZ (λg h=> .inl h) (λg h=> .inl h) (gk (f:=λI:RI=>pV I.k) E rfl) rfl;obtain⟨IR,hul,z1,z2⟩:=cP ((aZ.block t Ay (λe=>by omega)).trans HT2) abB.lt ii.size aZ.size;have kZ:∀g,V.heap.size<=g->¬(F g\/P g\/F2 g\/X g\/O g):=λg a o=>by have:=FD g o;omega
    obtain⟨g4',Ek,V4,wP,Js,xN,dW⟩:=io.afC (io.pw.abm (I:={I with G:={I.G with busy:=true}}) (rR hj) IR (Z9.aw aZ (λe=>by omega)) (λo=>kZ t SE (.inr (.inl o))) (λo=>kZ n lJ (.inr (.inl o))) (λo=>kZ t SE (.inl o)) (λo=>kZ n lJ (.inl o))) (λg a o=>by
     rcases a with a|a|a
     .rcases o with o|o|o
      .exact io.ad g (.inr a) (.inl o)
      .exact io.ad g (.inr a) (.inr o)
      .exact io.oa g o (.inr a)
     .exact kZ g (by omega) (.inr (.inr o))
     .exact kZ g (by omega) (.inr (.inr o))) (by omega)
    have hc4:=io.c4;have q4:=gH Js;have f4:=ae Js 4;obtain⟨V5,hV5⟩:=bP (V4.setCell ⟨q,4,none⟩ (.slice (some ⟨g4',0,none⟩) (ts.length+1) Ek));have Pq:V5.heap.size=V4.heap.size:=(by rw [hV5];simp);rw [<-hV5] at xN dW;have hrT:=xN.rw.abm (I:={R with G:={I.G with busy:=true},nv:=pV u}) (rR (by rw [D.sl];exact hj)) (abB.aw dW (λo=>kZ u (by omega) (.inr (.inr (.inr (.inr o)))))) (λo=>kZ u (by omega) (.inr (.inr (.inr (.inl o))))) (λo=>kZ u (by omega) (.inr (.inr (.inl o))));obtain⟨g5',NY,V6,nP,nU,FA,jE⟩:=xN.afD hrT (λg a o=>by
     rcases a with a|a
     .rcases o with o|o|o
      .exact xN.ad g (.inl o) (.inr a)
      .exact xN.ad g (.inr o) (.inr a)
      .exact xN.od g o (.inr a)
     .rcases o with o|(o|o|o)|(o|o)
      .exact kZ g (by omega) (.inl o)
      .exact kZ g (by omega) (.inr (.inl o))
      .omega
      .omega
      .exact kZ g (by omega) (.inr (.inr (.inr (.inr o))))
      .omega) (by have:=D.tl;omega)
    have hc5:=xN.c5;have q5:=sv nU;have f5:=ae nU 5;rw [Pq] at nP;rw [hV5] at nP hc5;have akT:=uS.size;have z4:=dW.size;have uV:=((((aa.ah A uS).trans ii (λg a=> .inl (C g (by rcases a with a|a;exact .inl a;exact .inr (.inl a))))).trans mZ (λg a=> .inl (C g (by rcases a with a|a;exact .inr (.inr (.inl a));exact .inr (.inr (.inr (.inl a))))))).trans dW (λg a=> .inl (C g (.inr (.inr (.inr (.inr a))))))).trans jE (λg a=>by
     rcases a with a|a
     .exact .inl (C g (.inr (.inr (.inr (.inr a)))))
     .exact .inr (by omega))
    have HF:(ew w (V6.setCell ⟨q,5,none⟩ (.slice (some ⟨g5',0,none⟩) (us.length+1) NY)) q A p r s N):=⟨λg=>A g\/w.heap.size<=g,⟨_,_,_,_,_,_,c,_,_,_,_,_,_,_,_,FA,(D.begun (t:=t) (n:=n) (u:=u) (tv:= .slice none 0 0) H E Wf).more (by omega),λg a=>(by
     rcases a with a|(a|a|a)|a|(a|a)|((a|a)|a)
     .exact .inl (C g (.inl a))
     .exact .inl (C g (.inr (.inl a)))
     .exact .inr (by omega)
     .exact .inr (by omega)
     .exact .inl (C g (.inr (.inr (.inl a))))
     .exact .inl (C g (.inr (.inr (.inr (.inl a)))))
     .exact .inr (by omega)
     .exact .inl (C g (.inr (.inr (.inr (.inr a)))))
     .exact .inr (by omega)
     .exact .inr (by omega)),by rw [List.length_set];omega,by rw [ee];show ts.length+1<=_;omega,by omega⟩,uV,λ_ h=>h⟩
    have H7:=wP;have H8:=nP;clear fB abB afV aZ ve og mZ io IR kZ wP Js xN dW hrT nP nU FA jE uV;go_wp2_with (at_builtin;first|refine bu rfl _ _ 32 rfl v3 (.slice (some (aD T.heap.size 0)) 1 1) _ rfl rfl H7 ?_|refine bu rfl _ _ 33 rfl v4 (.slice (some (aD V4.heap.size 0)) 1 1) _ rfl rfl H8 ?_);go_wp2;go_ret;exact⟨rfl,HF⟩
   .have vO:=(sX (fT.pw.Fc H)).mono (λe w' h=>by unfold sW at h;rw [aG hz] at h;exact h);have WR:=(λ(v:World) (XA:List PI) (J:W5 v q F P F2 X O p r s S S c v1 v2 v3 v4 XA ts rs us)=>(Ai (G:=I.G) J.rw.e (by rw [<-Q];exact(J.rw.jU E).st) (by rw [<-Q];exact(J.rw.jU E).lp) (J.nowAt D H E)).mono (λe w' h=>by unfold yw at h;rw [aG hz] at h;exact h));clear hz;generalize I.G.begin S=cd at*;go_wp2_with fail;refine fQ vO λv _ bd=>?_;have i5:=fT.later bd;have fB:=WR v _ i5;have dZ:=bd;have ff:=i5;clear vO bd i5;go_wp2_with fail;refine fQ fB λT _ bz=>?_;have HF:=(ew.idle (ff.later bz) D C h1 h2 hc (uS.trans ((dZ.trans (bz.mono dZ.size)).mono uS.size)));clear fB bz;go_wp2;go_ret;exact⟨by simp,HF⟩
  .have ME:=D.inv.p6;have HSy:=(λ(v:World) (S':DS) (J:W5 v q F P F2 X O p r s S' S c v1 v2 v3 v4 ss ts rs us)=>KQ J.rw.e (J.rw.jU E) (by omega));rw [Q] at HSy;go_wp2_with fail;refine(Ow (fT.pw.Fc H) (by omega)).mono ?_;rintro e v ⟨rfl,lz,aY⟩;have oe:=fT.pw.lB (λg h=> .inl h) lz.d aY;have pi:aa (λg=>F g\/P g) V v:=aY.mono (λg h=> .inl h);have i5:=fT.prog oe pi (λg h=> .inl h) rfl rfl;have fB:=HSy v _ i5;have ff:=i5;have ii:=pi;clear lz aY oe pi i5;go_wp2_with fail;refine fQ fB λT yD aZ=>?_;have og:=ff.rw.lB (λg h=> .inl h) yD aZ (λM hM hd=>by
    obtain⟨a1,a2⟩:=Po D.inv.ok I.G.L M.G.L hd;refine⟨a1,λb hb=>a2 _ ?_⟩;have:=(ff.rw.st M hM).hs;omega)
   have mZ:aa (λg=>F2 g\/X g) v T:=aZ.mono (λg h=> .inl h);have io:=ff.doc og mZ (λg h=> .inl h) (λg h=> .inl h) rfl rfl;have uV:=((aa.ah A uS).trans ii (λg a=> .inl (C g (by rcases a with a|a;exact .inl a;exact .inr (.inl a))))).trans mZ (λg a=> .inl (C g (by rcases a with a|a;exact .inr (.inr (.inl a));exact .inr (.inr (.inr (.inl a))))));have HF:(ew w T q A p r s N):=⟨A,⟨F,P,F2,X,O,_,c,v1,v2,v3,v4,_,_,_,_,io,D.synced H,C,by omega,by omega,by omega⟩,uV,λ_ h=> .inl h⟩;clear fB yD aZ og mZ io uV;go_wp2;go_ret;exact⟨by simp,HF⟩
  .obtain⟨ME,dO,j4,ve,mv⟩:=eQ D.inv.p6 D.inv.qi (fT.pw.Fc H) (fT.rw.jU E) (D.cs R (gB E));have hi:(ss.map (λI=>I.G.L))[j]? =some I.G.L:=(by rw [BE,H];rfl);have Xz:∀q∈I.G.ov,I.G.y.home+q.1<s/\q.2.length=512/\Bytes q.2:=λx o=>by
    have a1:=j4.kb x o;have a2:=j4.hs;exact⟨by omega,(j4.ch.len x o).2⟩
   have B8:I.G.L.f+2+I.G.L.n<=I.G.y.home:=(by have:=ve.lh;rw [Q] at this;exact this);have fE:=λhu=>by
    obtain⟨hd,hb⟩:=Dw hu;obtain⟨ha,hf⟩:=LE hd;exact((D.inv.al I.G.L (gB hi) ha hf).1 hb).2
   have dD:=IK D.inv hi (λx o=>⟨(Xz x o).1,(Xz x o).2.1⟩);have Yn:=mN I.G S s;have Fd:=II (G:=I.G) (S:=S) (s:=s) (λx o=>(Xz x o).1) (by have:=j4.hs;omega);have gN:=AZ I.G S s;have ny:=C9 j4 dO (by omega);have Z:=(λ(v:World) (F3:Nat->Prop) (S':DS) (c2:Nat) (XA:List PI) (J:W5 v q F3 P F2 X O p r s S' S c2 v1 v2 v3 v4 XA ts rs us)=>AD J.rw.e (J.rw.jU E) dO (by rw [Q];exact fE) (by omega) (by omega));have HI2:=D.inv.check hi j4.bg Xz j4.ch.small B8;have abA:=dD;unfold aay at Z;rw [Q] at Z;clear dD Xz B8 fE ve dO;generalize I.G.check S s=Ck at*;go_wp2_with fail;refine fQ ny λv lz aY=>?_;obtain⟨_,_,_,⟨pq,pl,pm⟩,_⟩:=fT.pw.st I (gB H);have oe:=fT.pw.onS H (G':=Ck.2.2) Yn (λg h=>h) lz (aY.mono (λg a=>by rcases a with a|a|a;exact .inl a;exact .inr (.inr (.inl a));exact .inr (.inr (.inr a))));have pi:aa (λg=>F g\/P g) V v:=aY.mono (λg a=>by rcases a with a|a|a;exact .inl a;exact .inr (a▸pl);exact .inr (a▸pm));have i5:=fT.prog oe pi (λg h=>h) (gk (f:=λI:PI=>pV I.q) H rfl) rfl;have fB:=Z v _ _ _ _ i5;have ff:=i5;have ii:=pi;clear ny lz aY oe pi i5 j4;go_wp2_with fail;refine fB.mono ?_;rintro e T ⟨rfl,yD,⟨hm',vY⟩,aZ⟩;have ve:=ff.rw.jU E;have og:=ff.rw.onS E (I':={R with G:=Ck.2.2,hm:=hm'}) rfl rfl (Yn.trans (by rw [Q])) yD vY rfl aZ (abA.imp id (λh n K hK dM=>by
    obtain⟨A,C⟩:∃A,ss[n]? =some A:=⟨ss[n]'(by rw [<-D.sl];exact(mS.1 hK).1),qQ _⟩;have:=h n A.G.L (by rw [BE,C];rfl) dM;rw [D.sg n A K C hK];exact this))
   have mZ:aa (λg=>F2 g\/X g) v T:=aZ.mono (λg a=>by rcases a with a|a|a;exact .inl a;exact .inr (a▸ve.xk);exact .inr (a▸ve.xl));have io:=ff.doc og mZ (λg h=>h) (λg h=> .inl h) (gk (f:=λI:RI=>pV I.k) E rfl) rfl;have M8:=D.akC (I':={I with G:=Ck.2.2}) (R':={R with G:=Ck.2.2,hm:=hm'}) (M:=N+2) H E rfl rfl gN rfl (by omega) (by rw [List.map_set];exact HI2.more (by omega)) Fd;have uV:=((aa.ah A uS).trans ii (λg a=> .inl (C g (by rcases a with a|a;exact .inl a;exact .inr (.inl a))))).trans mZ (λg a=> .inl (C g (by rcases a with a|a;exact .inr (.inr (.inl a));exact .inr (.inr (.inr (.inl a))))));have eM:=uS.size;have jD:=ii.size;have HF:(ew w T q A p r s N):=⟨λg=>A g\/w.heap.size<=g,⟨more F V v,P,more F2 v T,X,O,_,c+2,v1,v2,v3,v4,_,_,_,_,io,M8,λg a=>(by
    rcases a with (a|a)|a|(a|a)|a|a
    .exact .inl (C g (.inl a))
    .exact .inr (by omega)
    .exact .inl (C g (.inr (.inl a)))
    .exact .inl (C g (.inr (.inr (.inl a))))
    .exact .inr (by omega)
    .exact .inl (C g (.inr (.inr (.inr (.inl a)))))
    .exact .inl (C g (.inr (.inr (.inr (.inr a)))))),by rw [List.length_set];omega,by omega,by omega⟩,uV,λ_ h=>h⟩
   clear fB yD vY aZ og mZ io M8 uV;go_wp2;go_ret;exact⟨by simp,HF⟩
end
end
section
def ew.from {w w':World} {q:Nat} {A:Nat->Prop} {p r s N:Nat} (h:ew W w' q A p r s N) (a:bW w W):ew w w' q A p r s N:=by
 obtain⟨A',b,c,d⟩:=h;exact⟨A',b,(aa.ah (λ_=>False) a).mono (λ_ h=>h.elim) |>.trans c (λ_ h=> .inl h),λg e=>(d g e).imp id (λh=>k9 a.size h)⟩
section
variable {w w':World} {q:Nat} {F P F2 X O A:Nat->Prop} {p r s c N:Nat} {S:DS} {v1 v2 v3 v4:Value} {ss:List PI} {ts:List PT} {rs:List RI} {us:List RJ}
def A6 (a:Int) (h:W5 w q F P F2 X O p r s S S c v1 v2 v3 v4 ss ts rs us) (t:Lk S s N ss ts rs us) (D:∀g,(F g\/P g\/F2 g\/X g\/O g)->A g) (mw:∀g,A g->g<w.heap.size) (v:ss.length<=N) (C:ts.length<=N) (G:c<=5000*N) (E:N<=3999999990000) (b d f:Int) (i:Option Addr) (k j:Nat) (l:Option Addr) (n m:Nat) (x y z:Int) (AX:b<=9223372036854775807) (EV:a=3\/a=10\/a=11):
  Calls prog 12 #[pV q, .agg (jG a b d f i k j l n m x y z)] w λe w'=>e= .returned (.bool true)/\ew w w' q A p r s N:=by
 have fR:=aJ w (.cells (jG a b d f i k j l n m x y z) 41);have ln:(w.alloc (.cells (jG a b d f i k j l n m x y z) 41)).heap[w.heap.size]? =some (.cells (jG a b d f i k j l n m x y z) 41 (0,0)):=heap_alloc_new _ _;have uv:¬A w.heap.size:=λI=>by have:=mw _ I;omega
 obtain⟨J,K,L,M,Q,R,T,U,W⟩:=gU ln;have mn:=Ff (h.later fR) t D (λg H=>iL (mw g H) fR.size) v C G E a b d f i k j l n m x y z AX EV;have BC:=fR;clear h fR ln t;rcases EV with rfl|rfl|rfl <;>
 (go_in
  go_wp2_with fail;refine bJ mn λV o=>?_;have u:=(o.from BC);clear mn o;go_wp2;go_ret;exact⟨rfl,u⟩)
def oh (a:Int) (h:W5 w q F P F2 X O p r s S S c v1 v2 v3 v4 ss ts rs us) (u:Lk S s N ss ts rs us) (E:∀g,(F g\/P g\/F2 g\/X g\/O g)->A g) (mw:∀g,A g->g<w.heap.size) (C:ss.length<=N) (D:ts.length<=N) (H:c<=5000*N) (G:N<=3999999990000) (f j k:Int) (i:Option Addr) (b l:Nat) (m:Option Addr) (o n:Nat) (x y z:Int) (AX:f<=9223372036854775807) (d:List Int) (yq:∀W,aa A w W->Src W i b d) (xQ:Bytes d) (Eb:b<=140737488355328) (EV:a=4\/a=5\/a=6\/a=7\/a=8\/a=9):
  Calls prog 12 #[pV q, .agg (jG a f j k i b l m o n x y z)] w λe w'=>e= .returned (.bool true)/\ew w w' q A p r s N:=by
 have fR:=aJ w (.cells (jG a f j k i b l m o n x y z) 41);have ln:(w.alloc (.cells (jG a f j k i b l m o n x y z) 41)).heap[w.heap.size]? =some (.cells (jG a f j k i b l m o n x y z) 41 (0,0)):=heap_alloc_new _ _;have uv:¬A w.heap.size:=λK=>by have:=mw _ K;omega
 obtain⟨L,M,Q,R,T,U,Y,Z,y8⟩:=gU ln;have mn:=Dx (h.later fR) u E (λg I=>iL (mw g I) fR.size) C D H G a f j k i b l m o n x y z AX d (λW J=>yq W ((aa.ah (λ_=>False) fR).mono (λ_ h=>h.elim) |>.trans J (λ_ h=> .inl h))) xQ Eb (by omega);have BC:=fR;clear h fR ln u yq xQ;rcases EV with rfl|rfl|rfl|rfl|rfl|rfl <;>
 (go_in
  go_wp2_with fail;refine bJ mn λV t=>?_;have v:=(t.from BC);clear mn t;go_wp2;go_ret;exact⟨rfl,v⟩)
def Fg (h:W5 w q F P F2 X O p r s S S c v1 v2 v3 v4 ss ts rs us) (t:Lk S s N ss ts rs us) (C:∀g,(F g\/P g\/F2 g\/X g\/O g)->A g) (mw:∀g,A g->g<w.heap.size) (u:ss.length<=N) (v:ts.length<=N) (G:c<=5000*N) (D:N<=3999999990000) (b i j:Int) (f:Option Addr) (a k:Nat) (l:Option Addr) (n m:Nat) (x y z:Int) (AX:b<=9223372036854775807) (d:List Int) (yq:∀W,aa A w W->Src W f a d) (xQ:Bytes d) (Eb:a<=140737488355328):
  Calls prog 12 #[pV q, .agg (jG 12 b i j f a k l n m x y z)] w λe w'=>e= .returned (.bool true)/\ew w w' q A p r s N:=by
 have fR:=aJ w (.cells (jG 12 b i j f a k l n m x y z) 41);have ln:(w.alloc (.cells (jG 12 b i j f a k l n m x y z) 41)).heap[w.heap.size]? =some (.cells (jG 12 b i j f a k l n m x y z) 41 (0,0)):=heap_alloc_new _ _;have h0:=h.later fR;have uv:¬A w.heap.size:=λhx=>by have:=mw _ hx;omega
 have LT:=λg o=>iL (mw g o) fR.size;obtain⟨H,I,J,K,L,M,Q,R,T⟩:=gU ln;obtain⟨mn,U9,Y,YV,Yr,BC⟩:=jH (AW h0 t C LT u v G D b i j f a k l n m x y z AX) h0 t ln yq fR;clear h fR ln t h0 yq;go_in;go_wp2_with fail;refine bJ mn λV ar=>?_;clear H I J K L M Q R T;obtain⟨H,I,J,K,L,M,Q,R,T⟩:=gU ((ar.block w.heap.size (aq YV)).trans YV);have afW:=Dx (U9.later ar) Y C (λg o=>iL (LT g o) ar.size) u v G D 12 b i j f a k l n m x y z AX d (λW Z=>Yr W ((((aa.ah (λ_=>False) BC).mono (λ_ h=>h.elim):aa A w _).trans (aa.ah (λ_=>False) ar) (λ_ h=>h.elim)).trans Z (λ_ h=> .inl h))) xQ Eb (by omega);have cQ:=(BC.trans (ar.mono BC.size));clear mn ar;go_wp2_with fail;refine bJ afW λV2 E=>?_;have U:=(E.from cQ);clear afW E;go_wp2;go_ret;exact⟨rfl,U⟩
def LU (h:W5 w q F P F2 X O p r s S S c v1 v2 v3 v4 ss ts rs us) (n:Lk S s N ss ts rs us) (C:∀g,(F g\/P g\/F2 g\/X g\/O g)->A g) (mw:∀g,A g->g<w.heap.size) (u:ss.length<=N) (v:ts.length<=N) (E:c<=5000*N) (D:N<=3999999990000) (d a b:Int) (f:Option Addr) (j i:Nat) (k:Option Addr) (m l:Nat) (x y z:Int):
  Calls prog 12 #[pV q, .agg (jG 2 d a b f j i k m l x y z)] w λe w'=>e= .returned (.bool true)/\ew w w' q A p r s N:=by
 have fR:=aJ w (.cells (jG 2 d a b f j i k m l x y z) 41);have ln:(w.alloc (.cells (jG 2 d a b f j i k m l x y z) 41)).heap[w.heap.size]? =some (.cells (jG 2 d a b f j i k m l x y z) 41 (0,0)):=heap_alloc_new _ _;have uv:¬A w.heap.size:=λH=>by have:=mw _ H;omega
 have LT:=λg G=>iL (mw g G) fR.size;obtain⟨J,K,L,M,Q,R,T,U,W⟩:=gU ln;have mn:=abt (h.later fR) n C u v E D;have I:=n;have BC:=fR;clear h fR ln n;go_in;go_wp2_with fail;refine bJ mn λV o=>?_;have t:=(o.from BC);clear mn o;go_wp2;go_ret;exact⟨rfl,t⟩
def LV (h:W5 w q F P F2 X O p r s S S c v1 v2 v3 v4 ss ts rs us) (o:Lk S s N ss ts rs us) (D:∀g,(F g\/P g\/F2 g\/X g\/O g)->A g) (mw:∀g,A g->g<w.heap.size) (H:ss.length<=N) (I:ts.length<=N) (K:c<=5000*N) (J:N<=3999999990000) (j f i:Int) (l:Option Addr) (n m:Nat) (t:Option Addr) (v u:Nat) (x y z:Int):
  Calls prog 12 #[pV q, .agg (jG 15 j f i l n m t v u x y z)] w λe w'=>e= .returned (.bool true)/\ew w w' q A p r s N:=by
 have fR:=aJ w (.cells (jG 15 j f i l n m t v u x y z) 41);have ln:(w.alloc (.cells (jG 15 j f i l n m t v u x y z) 41)).heap[w.heap.size]? =some (.cells (jG 15 j f i l n m t v u x y z) 41 (0,0)):=heap_alloc_new _ _;have h0:=h.later fR;have uv:¬A w.heap.size:=λb=>by have:=mw _ b;omega
 have LT:=λg C=>iL (mw g C) fR.size;obtain⟨L,M,Q,R,T,U,W,Y,Z⟩:=gU ln;have Kw:=h0.pw.d.ok.hi;obtain⟨mn,U9,G,BC⟩:=cP (T6 h0.pw.d h0.rw.e (λk a b=>h0.ad k (.inl a) (.inl b)) h0.box (λb=>h0.oa q h0.oq (.inl b)) (by have:=o.inv.p6;omega) o.rf (by omega)) h0 o fR;clear h fR ln o h0;go_in;go_wp2_with fail;refine fQ mn λV hd a=>?_;have E:(ew w V q A p r s N):=⟨A,⟨_,_,_,_,_,_,c+s,_,_,_,_,_,_,_,_,U9.prog (U9.pw.lB (λg h=> .inl h) hd a) (a.mono (λg h=> .inl h)) (λg h=> .inl h) rfl rfl,G.more (by omega),D,by omega,by omega,by omega⟩,(aa.ah A BC).trans a (λg C=> .inl (D g (.inl C))),λ_ h=> .inl h⟩;clear mn hd a;go_wp2;go_ret;exact⟨rfl,E⟩
def LW (h:W5 w q F P F2 X O p r s S S c v1 v2 v3 v4 ss ts rs us) (t:Lk S s N ss ts rs us) (C:∀g,(F g\/P g\/F2 g\/X g\/O g)->A g) (u:ss.length<=N) (v:ts.length<=N) (D:c<=5000*N) (a f b d:Int) (i:Option Addr) (k j:Nat) (l:Option Addr) (n m:Nat) (x y z:Int) (EV:a<1\/15<a):
  Calls prog 12 #[pV q, .agg (jG a f b d i k j l n m x y z)] w λe w'=>e= .returned (.bool true)/\ew w w' q A p r s N:=by
 have fR:=aJ w (.cells (jG a f b d i k j l n m x y z) 41);have ln:(w.alloc (.cells (jG a f b d i k j l n m x y z) 41)).heap[w.heap.size]? =some (.cells (jG a f b d i k j l n m x y z) 41 (0,0)):=heap_alloc_new _ _;have H:=(gU ln).1;have o:=(ew.idle (h.later fR) t C u v D fR);clear h t fR ln;by_cases E:a<1
 .go_in;go_wp2;go_ret;exact⟨rfl,o⟩
 .have G:=EV.resolve_left E;go_in;go_wp2;go_ret;exact⟨rfl,o⟩
end
end
section
def LX {S:DS} (x:Int) (rs:List RI):Ua S (S.lay x) rs:=λR _ hd=>by
 unfold DS.lay at*;split at hd
 .rename_i h0;rw [aG h0];exact⟨hd,λ_ _=>rfl⟩
 .rename_i h0;rw [aB h0];refine⟨?_,λ_ _=>rfl⟩;unfold LG.dead;rw [Bool.or_eq_false_iff];refine⟨by rw [fy];exact h0,?_⟩;have a:R.G.L.life=S.life:=(LE hd).1;rw [a];simp
section
variable {w w':World} {q:Nat} {F P F2 X O A:Nat->Prop} {p r s c N:Nat} {S:DS} {v1 v2 v3 v4:Value} {ss:List PI} {ts:List PT} {rs:List RI} {us:List RJ}
def LZ (h:W5 w q F P F2 X O p r s S S c v1 v2 v3 v4 ss ts rs us) (K:Lk S s N ss ts rs us) (m:∀g,(F g\/P g\/F2 g\/X g\/O g)->A g) (mw:∀g,A g->g<w.heap.size) (h1:ss.length<=N) (h2:ts.length<=N) (hc:c<=5000*N) (U:N<=3999999990000) (i a f:Int) (j:Option Addr) (l k:Nat) (u:Option Addr) (C v:Nat) (x y z:Int) (n:a<=9223372036854775807):
  Calls prog 12 #[pV q, .agg (jG 13 i a f j l k u C v x y z)] w λe w'=>e= .returned (.bool true)/\ew w w' q A p r s N:=by
 have fR:=aJ w (.cells (jG 13 i a f j l k u C v x y z) 41);have ln:(w.alloc (.cells (jG 13 i a f j l k u C v x y z) 41)).heap[w.heap.size]? =some (.cells (jG 13 i a f j l k u C v x y z) 41 (0,0)):=heap_alloc_new _ _;have h0:=h.later fR;have uv:¬A w.heap.size:=λt=>by have:=mw _ t;omega
 have LT:=λg o=>iL (mw g o) fR.size;obtain⟨y0,Y,Z,y3,y4,y5,y6,y7,y8⟩:=gU ln;obtain⟨J,W,U9,G,YV,eM,BC⟩:=nD h0.c0 h0.c1 h0 K ln (aq ln) fR;clear h fR ln K h0 Y y3 y4 y5 y6 y7 y8;go_in;go_wp2_with fail;generalize (w.alloc (.cells (jG 13 i a f j l k u C v x y z) 41))=I at*;have kw:=ai (bi I.heap.size I);have b:=U9.later kw;have L:=B.afE b.pw.d a n;have LP:=b;have te:=kw;clear kw b;go_region_held3 (λw'=>w'.cell? (aD q 0)=some (pV p)/\w'.cell? (aD w.heap.size 2)=some (iV a))
  (first|exact⟨J,Z⟩|exact⟨LH,D⟩)
    ((go_at_call 26;refine L.mono ?_;rintro e H ⟨rfl,cI,aY⟩;have i5:=LP.prog (LP.pw.lB (λg h=> .inl h) cI aY) (aY.mono (λg h=> .inl h)) (λg h=> .inl h) rfl rfl;have LH:=i5.c0;have lJ:=(aY.block w.heap.size eM (λt=>uv (m _ (.inl t)))).trans ((te.block w.heap.size eM).trans YV);have D:=bM lJ))
 obtain⟨IP,ff,E,ii,jD,xW⟩:=jH i5.c1 i5 lJ aY (aq lJ) (ai (bi H.heap.size H));have A7:=i5.later xW;have Q:=RH A7.rw.e a n;have IT:=A7;have L0:=xW;clear L cI aY i5 lJ J W LH xW A7;go_wp2_with fail;go_region_held3 (λw'=>w'.cell? (aD q 1)=some (pV r)/\w'.cell? (aD w.heap.size 2)=some (iV a))
  (first|exact⟨IP,D⟩|exact⟨Uh,ak0⟩)
    ((go_at_call 27;refine Q.mono ?_;rintro e T ⟨rfl,yD,aZ⟩;have io:=IT.doc (IT.rw.lB (λg h=> .inl h) yD aZ (LX a rs)) (aZ.mono (λg h=> .inl h)) (λg h=> .inl h) (λg h=> .inl h) rfl rfl;have Uh:=io.c1;have pY:=(aZ.block w.heap.size jD (λt=>uv (m _ (.inr (.inr (.inl t)))))).trans ((L0.block w.heap.size jD).trans E);have ak0:=bM pY))
 have R:(ew w T q A p r s N):=⟨A,⟨_,_,_,_,_,_,c,_,_,_,_,_,_,_,_,io,G.T0 (M:=N+2) (by omega) ((G.inv.lay a io.pw.d.ok).more (by omega)) (abd S a),m,by omega,by omega,by omega⟩,((((((aa.ah A BC).trans (aa.ah (λ_=>False) te) (λ_ h=>h.elim)).trans ii (λg o=> .inl (m g (.inl o)))).trans (aa.ah (λ_=>False) L0) (λ_ h=>h.elim))).trans aZ (λg o=> .inl (m g (.inr (.inr (.inl o)))))),λ_ h=> .inl h⟩;clear Q yD aZ io pY;go_wp2;go_ret;exact⟨rfl,R⟩
def IU (h:W5 w q F P F2 X O p r s S S c v1 v2 v3 v4 ss ts rs us) (H:Lk S s N ss ts rs us) (i:∀g,(F g\/P g\/F2 g\/X g\/O g)->A g) (mw:∀g,A g->g<w.heap.size) (h1:ss.length<=N) (h2:ts.length<=N) (hc:c<=5000*N) (hN:N<=3999999990000) (v m n:Int) (C:Option Addr) (E D:Nat) (f:Option Addr) (b j:Nat) (x y z:Int) (l:List P3) (I:∀W,aa A w W->ll W f b l) (nH:24*b<=140737488355328):
  Calls prog 12 #[pV q, .agg (jG 14 v m n C E D f b j x y z)] w λe w'=>e= .returned (.bool true)/\ew w w' q A p r s N:=by
 have fR:=aJ w (.cells (jG 14 v m n C E D f b j x y z) 41);have ln:(w.alloc (.cells (jG 14 v m n C E D f b j x y z) 41)).heap[w.heap.size]? =some (.cells (jG 14 v m n C E D f b j x y z) 41 (0,0)):=heap_alloc_new _ _;have h0:=h.later fR;have uv:¬A w.heap.size:=λk=>by have:=mw _ k;omega
 have LT:=λg a=>iL (mw g a) fR.size;obtain⟨y0,y1,y2,y3,y4,y5,y6,y7,y8⟩:=gU ln;obtain⟨Y,c1,U9,L,YV,t,R,ME⟩:=xA h0.c0 h0.c1 h0 H ln I h0.under H.inv.p6;obtain⟨wl1,_⟩:=wj H.inv.l0 H.inv.lt hN;have yK:S.life<(S.iA s l).life:=by show S.life<wrap64 (S.life+1);omega
 have eM:=aq ln;have BC:=fR;clear h fR ln H h0 I;go_in;go_wp2_with fail;generalize (w.alloc (.cells (jG 14 v m n C E D f b j x y z) 41))=u at*;have kw:=ai (bi u.heap.size u);have EV:=(aa.ah A BC).trans (aa.ah (λ_=>False) kw) (λ_ h=>h.elim);obtain⟨Z,LP,te,K⟩:=cP (Nm f b j l u.drew nH (t _ EV)) (U9.later kw) kw EV;have hzd:u.drew.heap.size=u.heap.size:=rfl;clear kw EV;go_region_held3 (λw'=>w'.cell? (aD q 0)=some (pV p)/\w'.cell? (aD w.heap.size 5)=some (.slice f b j))
  (first|exact⟨Y,y5⟩|exact⟨LH,J⟩|exact⟨afY,afZ⟩)
  (first
   |(go_at_call 29;refine Z.mono ?_;rintro e V1 ⟨g,rfl,a,af0,ar⟩;have Lh:=LP.later ar;have LH:=Lh.c0;have iu:=(ar.block w.heap.size eM).trans ((te.block w.heap.size eM).trans YV);have J:=sv iu;have G:¬F g:=λk=>by have:=R g (.inl k);omega)
   |(go_at_call 28;refine(B.ZW Lh.pw.d (by omega) (some (aD g 0)) b b l af0 (by omega) (λx e=>by cases e;exact G)).mono ?_;rintro e U ⟨rfl,cI,aY⟩;have i5:=Lh.prog (Lh.pw.lB (λg h=> .inl h) cI aY) (aY.mono (λg h=> .inl h)) (λg h=> .inl h) rfl rfl;have afY:=i5.c0;have lJ:=(aY.block w.heap.size (aq iu) (λk=>uv (i _ (.inl k)))).trans iu;have afZ:=sv lJ))
 have IP:=i5.c1;have jD:=aq lJ;have xW:=ai (bi U.heap.size U);have Cn:=((K.trans (aa.ah (λ_=>False) ar) (λ_ h=>h.elim)).trans aY (λg a=> .inl (i g (.inl a)))).trans (aa.ah (λ_=>False) xW) (λ_ h=>h.elim);have A7:=i5.later xW;obtain⟨k2,IT,L0,Q,o⟩:=eQ (KF A7.rw.e (by omega) f b j l (t _ Cn) (by omega)) A7 xW lJ Cn;clear Z Lh ar af0 cI aY i5 iu lJ Y c1 LH afY y5 J xW A7 Cn G;go_wp2_with fail;go_region_held3 (λw'=>w'.cell? (aD q 1)=some (pV r)/\w'.cell? (aD w.heap.size 5)=some (.slice f b j))
  (first|exact⟨IP,afZ⟩|exact⟨Uh,T⟩)
    ((go_at_call 30;refine k2.mono ?_;rintro e V3 ⟨rfl,yD,aZ⟩;have io:=IT.doc (IT.rw.lB (λg h=>h) yD aZ (L.tk (.inr yK))) (aZ.mono (λg h=> .inl h)) (λg h=>h) (λg h=> .inl h) rfl rfl;have Uh:=io.c1;have pY:=(aZ.block w.heap.size jD (λk=>uv (i _ (.inr (.inr (.inl k)))))).trans ((L0.block w.heap.size jD).trans Q);have T:=sv pY))
 have uV:=o.trans aZ (λg a=> .inl (i g (.inr (.inr (.inl a)))));have zA:=o.size;have HF:(ew w V3 q A p r s N):=⟨λg=>A g\/w.heap.size<=g,⟨_,_,_,_,_,_,c,_,_,_,_,_,_,_,_,io,L.T0 (M:=N+2) (by omega) ((L.inv.iA (by omega) l io.pw.d.ok).more (by omega)) rfl,λg a=>(by
  rcases a with a|a|(a|a)|a|a
  .exact .inl (i g (.inl a))
  .exact .inl (i g (.inr (.inl a)))
  .exact .inl (i g (.inr (.inr (.inl a))))
  .exact .inr (by omega)
  .exact .inl (i g (.inr (.inr (.inr (.inl a)))))
  .exact .inl (i g (.inr (.inr (.inr (.inr a)))))),by omega,by omega,by omega⟩,uV,λ_ h=>h⟩
 clear k2 yD aZ io pY uV;go_wp2;go_ret;exact⟨rfl,HF⟩
def Fh (h:W5 w q F P F2 X O p r s S S c v1 v2 v3 v4 ss ts rs us) (f:Lk S s N ss ts rs us) (b:∀g,(F g\/P g\/F2 g\/X g\/O g)->A g) (mw:∀g,A g->g<w.heap.size) (h1:ss.length<=N) (h2:ts.length<=N) (hc:c<=5000*N) (hN:N<=3999999990000) (m j k:Int) (n:Option Addr) (t o:Nat) (v:Option Addr) (D C:Nat) (x y z:Int):
  Calls prog 12 #[pV q, .agg (jG 1 m j k n t o v D C x y z)] w λe w'=>e= .returned (.bool true)/\ew w w' q A p r s N:=by
 have fR:=aJ w (.cells (jG 1 m j k n t o v D C x y z) 41);have ln:(w.alloc (.cells (jG 1 m j k n t o v D C x y z) 41)).heap[w.heap.size]? =some (.cells (jG 1 m j k n t o v D C x y z) 41 (0,0)):=heap_alloc_new _ _;have h0:=h.later fR;have uv:¬A w.heap.size:=λu=>by have:=mw _ u;omega
 have LT:=λg a=>iL (mw g a) fR.size;obtain⟨y0,y1,y2,y3,y4,y5,y6,y7,y8⟩:=gU ln;obtain⟨T,c1,U9,HL,YV,ME,l1,l2⟩:=xA h0.c0 h0.c1 h0 f ln f.inv.p6 (B.wN h0.pw.d) (nR h0.rw.e);obtain⟨wl1,wl2⟩:=wj f.inv.l0 f.inv.lt hN;have Y:(bZ S s x y z).2=S\/S.life<(bZ S s x y z).2.life:=(LM S s x y z).imp id (λh=>by rcases h with h|h <;> omega);have Q:=(f.tk Y);obtain⟨K,Fd,FF,eM,BC⟩:=eQ ((f.inv.afh (by omega) x y z)) (Lz S s x y z) f.inv.qi (aq ln) fR;clear h fR ln f h0 Y;go_in;go_wp2_with fail;refine bJ l1 λw1 bT=>?_;have jR:=bT.symm;clear bT l1;subst jR;go_wp2_with fail;refine bJ l2 λw1 bT=>?_;have jR:=bT.symm;clear bT l2;subst jR;go_wp2_with fail;generalize (w.alloc (.cells (jG 1 m j k n t o v D C x y z) 41))=J at*;have kw:=ai (bi J.heap.size J);have i:=U9.later kw;have Z:=xm i.pw.d FF x y z (by omega);have LP:=i;have te:=kw;have l:=(λ(V:World) (he:aC V F2 r s S)=>E7 he FF x y z (by omega));unfold tD at l;clear kw i;generalize bZ S s x y z=Fm at*;go_region_held3 (λw'=>w'.cell? (aD q 0)=some (pV p)/\w'.cell? (aD w.heap.size 6)=some (iV x)/\w'.cell? (aD w.heap.size 7)=some (iV y)/\w'.cell? (aD w.heap.size 8)=some (iV z))
  (first|exact⟨T,y6,y7,y8⟩|exact⟨LH,E,G,H⟩)
    ((go_at_call 17;refine Z.mono ?_;rintro e I ⟨rfl,cI,aY⟩;have i5:=LP.prog (LP.pw.lB (λg h=>h) cI aY) (aY.mono (λg h=> .inl h)) (λg h=>h) rfl rfl;have LH:=i5.c0;have lJ:=(aY.block w.heap.size eM (λu=>uv (b _ (.inl u)))).trans ((te.block w.heap.size eM).trans YV);have E:=xz lJ;have G:=rH lJ;have H:=DG lJ))
 obtain⟨IP,ff,L,ii,jD,xW⟩:=jH i5.c1 i5 lJ aY (aq lJ) (ai (bi I.heap.size I));have A7:=i5.later xW;have k2:=l _ A7.rw.e;have IT:=A7;have L0:=xW;clear Z cI aY i5 lJ T c1 LH xW A7;go_wp2_with fail;go_region_held3 (λw'=>w'.cell? (aD q 1)=some (pV r)/\w'.cell? (aD w.heap.size 6)=some (iV x)/\w'.cell? (aD w.heap.size 7)=some (iV y)/\w'.cell? (aD w.heap.size 8)=some (iV z))
  (first|exact⟨IP,E,G,H⟩|exact⟨Uh,ak1,ak2,ak3⟩)
    ((go_at_call 24;refine k2.mono ?_;rintro e R ⟨rfl,yD,aZ⟩;have io:=IT.doc (IT.rw.lB (λg h=>h) yD aZ Q) (aZ.mono (λg h=> .inl h)) (λg h=>h) (λg h=> .inl h) rfl rfl;have Uh:=io.c1;have pY:=(aZ.block w.heap.size jD (λu=>uv (b _ (.inr (.inr (.inl u)))))).trans ((L0.block w.heap.size jD).trans L);have ak1:=xz pY;have ak2:=rH pY;have ak3:=DG pY))
 have M8:=HL.T0 (M:=N+2) (by omega) K Fd;have abD:=ai (bi R.heap.size R);have uU:=io.later abD;have z0:=BC.size;have z2:=ii.size;have zd:J.drew.heap.size=J.heap.size:=rfl;have zd2:I.drew.heap.size=I.heap.size:=rfl;have uV:=((((((aa.ah A BC).trans (aa.ah (λ_=>False) te) (λ_ h=>h.elim)).trans ii (λg a=> .inl (b g (.inl a)))).trans (aa.ah (λ_=>False) L0) (λ_ h=>h.elim))).trans aZ (λg a=> .inl (b g (.inr (.inr (.inl a)))))).trans (aa.ah (λ_=>False) abD) (λ_ h=>h.elim);have HF:(ew w R.drew q A p r s N):=⟨λg=>A g\/w.heap.size<=g,⟨_,_,_,_,_,_,c+2,_,_,_,_,_,_,_,_,uU,M8,λg a=>(by
  rcases a with (a|a)|a|(a|a)|a|a
  .exact .inl (b g (.inl a))
  .exact .inr (by omega)
  .exact .inl (b g (.inr (.inl a)))
  .exact .inl (b g (.inr (.inr (.inl a))))
  .exact .inr (by omega)
  .exact .inl (b g (.inr (.inr (.inr (.inl a)))))
  .exact .inl (b g (.inr (.inr (.inr (.inr a)))))),by omega,by omega,by omega⟩,uV,λ_ h=>h⟩
 obtain⟨l3,l4,U,W⟩:=cP (B.wN uU.pw.d) (nR uU.rw.e) io.c0 io.c1;clear k2 yD aZ io uU abD pY M8 uV;go_wp2_with fail;go_region_held3 (λw'=>w'.cell? (aD q 0)=some (pV p)/\w'.cell? (aD q 1)=some (pV r))
  (exact⟨U,W⟩)
  (first
   |(go_at_call 22;refine l3.mono ?_;rintro e w4 ⟨rfl,pA⟩;have E3:=pA.symm;clear pA;subst E3)
   |(go_at_call 23;refine l4.mono ?_;rintro e w5 ⟨rfl,Jo⟩;have LI:=Jo.symm;clear Jo;subst LI))
 clear l3 l4 U W;go_wp2;go_ret;exact⟨by simp,HF⟩
end
end
section
section
variable {w w':World} {q:Nat} {F P F2 X O A:Nat->Prop} {p r s c N:Nat} {S:DS} {v1 v2 v3 v4:Value} {ss:List PI} {ts:List PT} {rs:List RI} {us:List RJ}
def Pt (h:W5 w q F P F2 X O p r s S S c v1 v2 v3 v4 ss ts rs us) (E:Lk S s N ss ts rs us) (C:∀g,(F g\/P g\/F2 g\/X g\/O g)->A g) (mw:∀g,A g->g<w.heap.size) (u:ss.length<=N) (v:ts.length<=N) (D:c<=5000*N) (G:N<=3999999990000) (b j i n:Int) (l:Option Addr) (a o:Nat) (m:Option Addr) (f t:Nat) (x y z:Int) (AX:j<=9223372036854775807) (H:i<=9223372036854775807) (d:List Int) (yq:∀W,aa A w W->Src W l a d) (xQ:Bytes d) (Eb:a<=140737488355328) (J:List P3) (I:∀W,aa A w W->ll W m f J) (nH:24*f<=140737488355328):
  Calls prog 12 #[pV q, .agg (jG b j i n l a o m f t x y z)] w λe w'=>e= .returned (.bool true)/\ew w w' q A p r s N:=by
 by_cases k:b<1\/15<b
 .exact LW h E C u v D b j i n l a o m f t x y z k
 .have K:b=1\/b=2\/b=3\/b=4\/b=5\/b=6\/b=7\/b=8\/b=9\/b=10\/b=11\/b=12\/b=13\/b=14\/b=15:=by omega
  rcases K with rfl|rfl|rfl|rfl|rfl|rfl|rfl|rfl|rfl|rfl|rfl|rfl|rfl|rfl|rfl
  .exact Fh h E C mw u v D G j i n l a o m f t x y z
  .exact LU h E C mw u v D G j i n l a o m f t x y z
  .exact A6 3 h E C mw u v D G j i n l a o m f t x y z AX (by omega)
  .exact oh 4 h E C mw u v D G j i n l a o m f t x y z AX d yq xQ Eb (by omega)
  .exact oh 5 h E C mw u v D G j i n l a o m f t x y z AX d yq xQ Eb (by omega)
  .exact oh 6 h E C mw u v D G j i n l a o m f t x y z AX d yq xQ Eb (by omega)
  .exact oh 7 h E C mw u v D G j i n l a o m f t x y z AX d yq xQ Eb (by omega)
  .exact oh 8 h E C mw u v D G j i n l a o m f t x y z AX d yq xQ Eb (by omega)
  .exact oh 9 h E C mw u v D G j i n l a o m f t x y z AX d yq xQ Eb (by omega)
  .exact A6 10 h E C mw u v D G j i n l a o m f t x y z AX (by omega)
  .exact A6 11 h E C mw u v D G j i n l a o m f t x y z AX (by omega)
  .exact Fg h E C mw u v D G j i n l a o m f t x y z AX d yq xQ Eb
  .exact LZ h E C mw u v D G j i n l a o m f t x y z H
  .exact IU h E C mw u v D G j i n l a o m f t x y z J I nH
  .exact LV h E C mw u v D G j i n l a o m f t x y z
end
end
section
section
variable {S:DS} {s:Nat}
def A8 {S:DS} (h:S.fuse= -1):S.gv.fuse= -1:=by
 unfold DS.gv;simp only;rw [aB (by omega)];exact h
def rE {S:DS} (h:S.fuse= -1) (s:Nat) (x:Int) (n:Nat) (l:List Int):(S.wr s x n l).2.fuse= -1:=by
 unfold DS.wr;split
 .exact h
 .split
  .exact h
  .split
   .exact h
   .exact A8 h
def rF {S:DS} (h:S.fuse= -1) (s:Nat):(S.fl s).2.fuse= -1:=by
 unfold DS.fl;split
 .exact h
 .exact A8 h
def o8 {S:DS} (h:S.fuse= -1) {g:Nat->DS->Int×DS} (a:∀k T,T.fuse= -1->(g k T).2.fuse= -1):∀n,(cB S g n).2.fuse= -1
 |0=>h
 |n+1=>by
  unfold cB;split
  .exact o8 h a n
  .exact a n _ (o8 h a n)
def L1 {S:DS} (h:S.fuse= -1) (s f n:Nat):(cO S s f n).2.fuse= -1:=by
 have a:(bF S s f (n+2)).2.fuse= -1:=o8 h (λk T b=>rE b _ _ _ _) _;unfold cO;split
 .exact a
 .exact rF a s
def Dy {S:DS} (h:S.fuse= -1) (s f:Nat) (num:Int):(dg S s f num).2.fuse= -1:=by
 unfold dg;split
 .exact h
 .split
  .exact h
  .split
   .exact rE h _ _ _ _
   .exact rF (rE h _ _ _ _) _
def IV {r:List Int} (c:l.length=512) (d:r.length=512) (a:1<=N) (b:N<9223372036854775808) (h:(am l r).2.1<N):
    (am (za l r (aP l r (N:Int) []).1 (aP l r (N:Int) []).2.1).1 (za l r (aP l r (N:Int) []).1 (aP l r (N:Int) []).2.1).2).2=(N, [],0):=by
 have e:(aP l r (N:Int) [])=if (am l r).2.2.2=0/\(am l r).1=0 then (1,bh (cG (r.getD 0 0) (r.getD 511 0)) (aS N ++ []),0) else (0,bh (cG (l.getD 0 0) (l.getD 511 0)) (aS N ++ []),0):=by
  unfold aP;rw [aB (by omega),aB (by omega),aB (by simp)];simp only;rw [aB (by omega),mx]
 rw [e];by_cases q:(am l r).2.2.2=0/\(am l r).1=0
 .rw [aG q];have:=tQ (data:= []) c d b a (by simp) h (t:=cG (r.getD 0 0) (r.getD 511 0)) (by have:=gw (r.getD 0 0) (r.getD 511 0);omega) 1 (by rw [aG q]);simp only;rw [this]
 .rw [aB q];have:=tQ (data:= []) c d b a (by simp) h (t:=cG (l.getD 0 0) (l.getD 511 0)) (by have:=gw (l.getD 0 0) (l.getD 511 0);omega) 0 (by rw [aB q]);simp only;rw [this]
def L3 {S:DS} {s f:Nat} (h:S.Ok s) (c:f+1<s) (b:1<=N) (g:N<9223372036854775808) (bq:S.num f<N) (h0:(dg S s f (N:Int)).1=0):(am ((dg S s f (N:Int)).2.now f) ((dg S s f (N:Int)).2.now (f+1))).2=(N, [],0)/\∀j,j<s->j≠f->j≠f+1->(dg S s f (N:Int)).2.now j=S.now j:=by
 have d:=bA h f (by omega);have e:=bA h (f+1) c;have dw:=iF d e b bq;have a:=IV d e b g bq;have mX:=fW (S.now f) (S.now (f+1)) (N:Int) [];have FB:=kQ (S.now f) (S.now (f+1)) (N:Int) [] dw;unfold dg at*;split at h0
 .simp at h0
 .rename_i xO;rw [aB xO];rw [aB (by omega)] at h0⊢;generalize aP (S.now f) (S.now (f+1)) (N:Int) []=Y at*;rw [show (f:Int)+(Y.1:Int)=((f+Y.1:Nat):Int) by omega] at h0⊢;have V0:(S.wr s ((f+Y.1:Nat):Int) 512 Y.2.1).1=0:=by rw [pf xO (by omega)]
  rw [aB (by omega)] at h0⊢;have N5:=um h xO (show f+Y.1<s by omega) FB;refine⟨?_,λj i l m=>?_⟩
  .rw [fa N5 (by omega),fa N5 c,jN xO (by omega),jN xO (by omega)];unfold za at a;by_cases q:Y.1=0
   .rw [q] at a⊢;rw [aG (by omega),aB (by omega)];rw [aG rfl] at a;exact a
   .have k:Y.1=1:=(by omega);rw [k] at a⊢;rw [aB (by omega),aG rfl];rw [aB (by omega)] at a;exact a
  .rw [fa N5 i,jN xO (by omega),aB (by omega)]
def IW:(aX (zs 512)).2≠0\/(aX (zs 512)).1.length<12:=by
 have a:dJ (zs 512)= []:=by
  unfold dJ;rw [show dP (zs 512)=0 from by unfold dP;rw [show (zs 512).getD 1 0=0 from rfl,show (zs 512).getD 2 0=0 from rfl];rfl];exact List.take_zero
 unfold aX;rw [aB (by rw [bH];omega)];unfold fC;rw [a];split
 .left;show (30:Nat)≠0;omega
 .rename_i b h;right;split at h
  .cases h;show (0:Nat)<12;omega
  .cases h
def xy:(dr (zs 512)).d= []/\(dr (zs 512)).e=0:=by
 unfold dr;rw [aG IW];exact⟨rfl,rfl⟩
def Dz {R:Nat->PC}:∀k,(∀i,i<k->(R i).e=0)->gQ R k=0
 |0,_=>rfl
 |k+1,h=>by
  show (if (R k).e<=1073741824 then max (gQ R k) (R k).e else gQ R k)=0;rw [h k (by omega),Dz k (λi a=>h i (by omega))];rfl
def Ui {S:DS} {s f:Nat} (h:S.Ok s) (i:f+2+n<=s) (h0:(cO S s f n).1=0):∀j,j<n+2->(cO S s f n).2.now (f+j)=zs 512:=λj c=>by
 obtain⟨d,a,g,b⟩:=lN (f:=f) h (n:=n+2) (by omega) (n+2) (bR _);unfold cO at*;by_cases e:(bF S s f (n+2)).1=0
 .rw [aB (by omega),fa a (by omega)];exact b e j c
 .rw [aG e] at h0;exact absurd h0 e
def Ja (h:S.Ok s) (k:S.fuse= -1) {b:Nat} (oN:a+2+b<=s) (ar:18<=b) (bd:b<=256):
    (cD S s a b).1=0/\(cD S s a b).2.fuse= -1/\cm (cD S s a b).2 a=(1,0,0)/\∀j,j<b->(cD S s a b).2.now (a+2+j)=zs 512:=by
 have Zk:cy S s (a:Int) (b:Int)=0:=by
  unfold cy;rw [aB (by omega),aB (by omega),aB (by omega),aB (by omega)]
 unfold cD;rw [aB (by omega)];simp only [mx];have dw:S.take.Ok s:=⟨h.len,h.lo,h.hi,h.puts,h.fuse⟩;obtain⟨t,c,o,p⟩:=kS (f:=a) (n:=b) dw oN;have Bo:=L1 (S:=S.take) k s a b;have h0:=Decidable.byContradiction (λe=>by have:=o e;omega);have m:=Ui dw oN h0;obtain⟨g,u⟩:=p h0;rw [aB (by omega)];have l:=iF (bA c a (by omega)) (bA c (a+1) (by omega)) (N:=4294967296) (by omega) (by show DS.num _ a<_;rw [g];omega);have BP:(dg (cO S.take s a b).2 s a 4294967296).2.fuse= -1:=Dy Bo s a _;have d:(dg (cO S.take s a b).2 s a 4294967296).1=0:=Decidable.byContradiction (λe=>by have i:=(qh (num:=4294967296) (by omega) l e).1;rw [BP] at i;omega);obtain⟨w1,q⟩:=L3 (s:=s) (f:=a) (N:=4294967296) c (by omega) (by omega) (by omega) (by rw [g];omega) d;refine⟨d,BP,?_,λj r=>?_⟩
 .unfold cm il;generalize am ((dg (cO S.take s a b).2 s a 4294967296).2.now a) ((dg (cO S.take s a b).2 s a 4294967296).2.now (a+1))=X at*;have w1:=w1;rw [w1];decide
 .have:=q (a+2+j) (by omega) (by omega) (by omega);refine Eq.trans this ?_;rw [show a+2+j=a+(2+j) by omega];exact m (2+j) (by omega)
def Pv {b:Nat} (k:S.Ok s) (n:S.fuse= -1) (oN:a+2+b<=s) (ar:18<=b) (bd:b<=256) (g:cm S a=(1,0,0)) (u:∀j,j<b->S.now (a+2+j)=zs 512):
    (bC S s a b).1=0/\(bC S s a b).2.fuse= -1/\(bC S s a b).2.life=wrap64 (S.life+1)/\(∀rs hd,dF (Rp (ed S a) b) (cm S a).1 (cm S a).2.1 rs hd->rs= []/\hd=0)/\is S a b=1:=by
 have Zk:cy S s (a:Int) (b:Int)=0:=by
  unfold cy;rw [aB (by omega),aB (by omega),aB (by omega),aB (by omega)]
 have m:∀j,j<b->(ed S a j).e=0/\(ed S a j).d= []:=λj r=>by
  unfold ed;rw [u j r];exact⟨xy.2,xy.1⟩
 have t:is S a b=1:=by
  unfold is;rw [Dz b (λi q=>(m i q).1),g];rfl
 have o:bC S s (a:Int) (b:Int)=S.take.fl s:=by
  unfold bC;rw [aB (by omega),mx,mx,aB (by rw [g];decide),aB (by omega)]
 rw [o];have f:=rF (S:=S.take) n s;refine⟨Decidable.byContradiction (λe=>by have:=(lD e).2.1;have:S.take.fuse= -1:=n;omega),f,fZ _ _,λrs hd Ay=>?_,t⟩;rw [g] at Ay;cases rs with
 |nil=>exact⟨rfl,Ay⟩
 |cons x xs=>
  obtain⟨c,f,_⟩:=Ay;have l:=(f.2.2.1 0 (by have:=f.1;omega)).2.2.2.2.1;have p:Rp (ed S a) b (0+0)=ed S a 0:=by unfold Rp;rw [Nat.add_zero,Nat.zero_mod]
  rw [p,(m 0 (by omega)).2] at l;simp at l
end
end
section
section
variable {S S2:DS} {s h0:Nat} {x:Int}
def xw:∀{ms:CM} {S:DS},S.fuse= -1->(aE S s h0 ms).2.fuse= -1
 | [],_,h=>h
 |q :: qs,S,h=>by
  have a:=rE h s ((h0+q.1:Nat):Int) 512 q.2;unfold aE;split
  .exact a
  .exact xw a
def DA:∀{ms:CM} {S:DS},S.fuse= -1->(∀q∈ms,h0+q.1<s/\q.2=zs 512)->(∀j,j<s->S.now j=zs 512)->∀j,j<s->(aE S s h0 ms).2.now j=zs 512
 | [],_,_,_,hz=>hz
 |q :: qs,S,h,hm,hz=>by
  obtain⟨d,e⟩:=hm q (List.mem_cons_self ..);have a:∀j,j<s->(S.wr s ((h0+q.1:Nat):Int) 512 q.2).2.now j=zs 512:=λj b=>by
   rw [jN (by omega) d];split
   .exact e
   .exact hz j b
  unfold aE;split
  .exact a
  .exact DA (rE h s ((h0+q.1:Nat):Int) 512 q.2) (λx c=>hm x (List.mem_cons_of_mem _ c)) a
def Fi (d:a+n<=s):∀q∈fe n,a+q.1<s/\q.2=zs 512:=λq b=>by
 unfold fe at b;obtain⟨i,c,rfl⟩:=List.mem_map.1 b;have:=List.mem_range.1 c;exact⟨by show a+i<s;omega,rfl⟩
def Fu (a:S.fuse= -1):(S.fl s).1=0:=Decidable.byContradiction (λe=>by have:=(lD e).2.1;omega)
def A9 (dw:S.Ok s) (f:S.fuse= -1) (b:a+n<=s) (r:∀j,j<s->S.now j=zs 512):(eD S s a n).1=0/\(eD S s a n).2.fuse= -1/\(eD S s a n).2.Ok s/\(eD S s a n).2.puts= []/\(∀j,j<s->(eD S s a n).2.now j=zs 512):=by
 obtain⟨k,_,_,l⟩:=qN dw b;obtain⟨_,_,m,o,_⟩:=eE (h0:=a) (ms:=fe n) dw (λq i=>⟨(Fi b q i).1,by rw [(Fi b q i).2];exact bH 512⟩);have c:=xw (s:=s) (h0:=a) (ms:=fe n) f;have p:=Decidable.byContradiction (λe=>by have:=o e;omega);have e:eD S s a n=(aE S s a (fe n)).2.fl s:=by unfold eD;rw [aB (λh=>h p)]
 have d:(eD S s a n).1=0:=by rw [e];exact Fu c
 refine⟨d,by rw [e];exact rF c s,k,l d,λj g=>?_⟩;rw [e,fa m g];exact(DA (s:=s) (h0:=a) f (Fi b) r) j g
def abE (c:k<s) (l:List Int) (b:j≠k):(S.wr s (k:Int) 512 l).2.now j=S.now j:=by
 by_cases a:S.fuse=0
 .unfold DS.wr;rw [aG a]
 .rw [jN a c,aB b]
def Ba {f j:Nat}:∀k,f+k<=s->f+k<=j->(bF S s f k).2.now j=S.now j
 |0,_,_=>rfl
 |k+1,h1,h2=>by
  have a:(bF S s f k).2.now j=S.now j:=Ba k (by omega) (by omega);show (cB S _ (k+1)).2.now j=_;unfold cB;split
  .exact a
  .exact(abE (k:=f+k) (by omega) _ (by omega)).trans a
def IX {b:Nat} (dw:S.Ok s) (oN:a+2+b<=s) (k:a+2+b<=j) (c:j<s):(cD S s (a:Int) (b:Int)).2.now j=S.now j:=by
 have pO:S.take.Ok s:=⟨dw.len,dw.lo,dw.hi,dw.puts,dw.fuse⟩;obtain⟨_,g,_,_⟩:=lN (f:=a) pO (n:=b+2) (by omega) (b+2) (bR _);have d:(bF S.take s a (b+2)).2.now j=S.now j:=Ba (S:=S.take) (b+2) (by omega) (by omega);have e:(cO S.take s a b).2.now j=S.now j:=by
  unfold cO;split
  .exact d
  .exact(fa g c).trans d
 obtain⟨_,i,_,_⟩:=kS (f:=a) (n:=b) pO oN;unfold cD;split
 .rfl
 .simp only [mx];split
  .exact e
  .exact((nZ i (by omega) _).2 j (by omega) c).trans e
def Fj (n k:Nat):(bD n k).take n=bD n k:=nC (by rw [aK];omega)
def Uj {b:Nat} (j:vT a b c):mQ (gY a b c) a/\(cE (gY a b c)).log=b/\(cE (gY a b c)).home=3+b/\(cE (gY a b c)).blocks=a-(3+b):=by
 have RP:=j;obtain⟨⟨l,n⟩,⟨o,p⟩,r,s,t⟩:=j;have e:=kB a b c;have uW:gA.length=8:=rfl;have i:∀q m,q+m<=508->part (eZ (bO a b c)) q m=part (bO a b c) q m:=λq m h=>iZ _ _ _ _ (by rw [dG];exact h);have g:u32 (eZ (bO a b c)) 8=a:=by
  unfold u32;rw [i 8 4 (by omega)];unfold bO;rw [iZ _ _ _ _ (by simp only [ee,aK,uW];omega),iZ _ _ _ _ (by simp only [ee,aK,uW];omega),iZ _ _ _ _ (by simp only [ee,aK,uW];omega),qI _ _ _ _ uW.symm,Fj,AG _ _ (by omega)]
 have d:u32 (eZ (bO a b c)) 12=b:=by
  unfold u32;rw [i 12 4 (by omega)];unfold bO;rw [iZ _ _ _ _ (by simp only [ee,aK,uW];omega),iZ _ _ _ _ (by simp only [ee,aK,uW];omega),qI _ _ _ _ (by simp only [ee,aK,uW]),Fj,AG _ _ (by omega)]
 have f:u32 (eZ (bO a b c)) 16=c:=by
  unfold u32;rw [i 16 4 (by omega)];unfold bO;rw [iZ _ _ _ _ (by simp only [ee,aK,uW];omega),qI _ _ _ _ (by simp only [ee,aK,uW]),Fj,AG _ _ (by omega)]
 have k:Bytes (eZ (bO a b c)):=(ic _ _ _).append (iT _ _);refine⟨⟨(Dp k e).2 ⟨?_,?_⟩,g⟩,?_,?_,?_⟩
 .rw [g,d,f];exact RP
 .rw [g,d,f]
 .unfold cE;exact d
 .unfold cE;show 3+u32 _ 12=_;rw [d]
 .unfold cE;show u32 _ 8-(3+u32 _ 12)=_;rw [g,d]
def Fk {b:Nat} (dw:S.Ok a) (dO:S.fN) (Y:S.fuse= -1) (ws:0<=S.life) (cu:S.life<=1) (q:vT a b c) (Z:∀j,j<a->S.now j=zs 512):
    (bZ S a a b c).1=0/\(bZ S a a b c).2.fuse= -1/\(bZ S a a b c).2.Ok a/\(bZ S a a b c).2.puts= []/\(bZ S a a b c).2.now 0=gY a b c/\cm (bZ S a a b c).2 1=(1,0,0)/\∀j,3<=j->j<a->(bZ S a a b c).2.now j=zs 512:=by
 obtain⟨⟨O,P⟩,⟨Q,R⟩,T,U,W⟩:=q;have q:vT a b c:=⟨⟨O,P⟩,⟨Q,R⟩,T,U,W⟩;have pO:S.take.Ok a:=⟨dw.len,dw.lo,dw.hi,dw.puts,dw.fuse⟩;have J:bZ S a a b c=lQ S a b c:=by
  unfold bZ;rw [aB (by omega)]
  haveI:=Sw (a:Int) (b:Int) (c:Int)
  rw [aG ⟨q,rfl⟩,mx,mx]
 obtain⟨u,v,w,G,x⟩:=A9 (s:=a) (a:=0) (n:=1) pO Y (by omega) (λj r=>Z j r);have y:=kx dO.take a 0 1;have z:=uT S.take a 0 1;have M:mj S a=eD S.take a 0 1:=rfl;rw [<-M] at u v w G x y z;obtain⟨A,C,e,D,E⟩:=A9 (s:=a) (a:=1) (n:=a-1) w v (by omega) x;have H:=kx y a 1 (a-1);have I:=(uT (mj S a).2 a 1 (a-1)).trans z;have N:nr S a=eD (mj S a).2 a 1 (a-1):=rfl;rw [<-N] at A C e D E H I;have bq:S.take.life=S.life+1:=by show wrap64 (S.life+1)=_;unfold wrap64;omega
 obtain⟨g,i,k,l⟩:=Ja (a:=1) (b:=b) e C (by omega) (by omega) (by omega);obtain⟨m,_,d3⟩:=sm (S:=(nr S a).2) (s:=a) (t:=10) e (by omega) (by omega) (by omega) (by omega) D 1 (b:Int);have abF:∀j,3+b<=j->j<a->(cD (nr S a).2 a 1 (b:Int)).2.now j=zs 512:=λj X d=>(IX (a:=1) (b:=b) e (by omega) (by omega) d).trans (E j d);have g:(jW S a b).1=0:=g;have i:(jW S a b).2.fuse= -1:=i;have k:cm (jW S a b).2 1=(1,0,0):=k;have l:∀j,j<b->(jW S a b).2.now (1+2+j)=zs 512:=l;have m:(jW S a b).2.Ok a:=m;have abF:∀j,3+b<=j->j<a->(jW S a b).2.now j=zs 512:=abF;have mX:(gY a b c).length=512:=kB _ _ _;have p:ml S a b c=(jW S a b).2.wr a ((0:Nat):Int) 512 (gY a b c):=rfl;have K:(ml S a b c).1=0:=by rw [p,pf (by omega) (by omega)]
 have o:(ml S a b c).2.fuse= -1:=rE i _ _ _ _;have F:(ml S a b c).2.Ok a:=by rw [p];exact um m (by omega) (by omega) mX
 have f:∀j,(ml S a b c).2.now j=if j=0 then gY a b c else (jW S a b).2.now j:=λj=>by rw [p];exact jN (by omega) (by omega) _ j
 have L:lQ S a b c=(ml S a b c).2.fl a:=by
  unfold lQ;rw [aB (λh=>h u),aB (λh=>h A),aB (λh=>h g),aB (λh=>h K)]
 rw [J,L];have j1:∀j,j<a->((ml S a b c).2.fl a).2.now j=(ml S a b c).2.now j:=λj r=>fa F r;refine⟨Fu o,rF o a,so F,jn (Fu o),?_,?_,λj X d=>?_⟩
 .rw [j1 0 (by omega),f 0,aG rfl]
 .have o1:((ml S a b c).2.fl a).2.now 1=(jW S a b).2.now 1:=by rw [j1 1 (by omega),f 1,aB (by omega)]
  have o2:((ml S a b c).2.fl a).2.now 2=(jW S a b).2.now 2:=by rw [j1 2 (by omega),f 2,aB (by omega)]
  rw [<-k];unfold cm;rw [o1,o2]
 .rw [j1 j d,f j,aB (by omega)];by_cases h3:j<3+b
  .have:=l (j-3) (by omega);rwa [show 1+2+(j-3)=j by omega] at this
  .exact abF j (by omega) d
def IY (a:S.fuse= -1):(L.start S s).2.1.fuse= -1:=by
 unfold LG.start;split
 .exact a
 .split
  .exact a
  .split <;> exact Dy a _ _ _
def IZ:(L.start S s).2.2.life=L.life:=by
 unfold LG.start;split
 .rfl
 .split
  .rfl
  .split <;> rfl
def tA.life (h:tA S s L):L.life=wrap64 (S.life+1):=by
 obtain⟨rs,hd,ov,_,_,rfl⟩:=h;exact IZ
def L4 (dw:S.Ok s) (dO:S.fN) (l:S.fuse= -1) (qO:mQ (S.now 0) s) (u:cm S 1=(1,0,0)) (y:∀j,j<(cE (S.now 0)).log->S.now (1+2+j)=zs 512) (v:j5 S s x S2):x=0/\S2.fuse= -1/\∀j,3<=j->j<s->S2.now j=S.now j:=by
 have uQ:=kz qO;obtain⟨n,D,E,o,F⟩:=Pv (a:=1) (b:=(cE (S.now 0)).log) dw l (by omega) (by omega) (by omega) u y;have IP:(bC S s 1 (((cE (S.now 0)).log:Nat):Int)).1=0:=n;obtain⟨_,m,C,oo⟩:=mg (f:=1) IP;have Eh:bC S s 1 (((cE (S.now 0)).log:Nat):Int)=S.take.fl s:=oo;have pO:S.take.Ok s:=⟨dw.len,dw.lo,dw.hi,dw.puts,dw.fuse⟩;rcases v with ⟨r,A,rfl⟩|⟨_,_,k⟩
 .exfalso;rcases r with ⟨d,_,_⟩|⟨_,_,_,e⟩|⟨_,c,_,_⟩
  .omega
  .exact A e
  .exact c qO
 .rcases k with ⟨p,z,_⟩|⟨_,rs,hd,FI,k⟩
  .exact absurd (p.symm.trans IP) z
  .obtain⟨rfl,rfl⟩:=o rs hd FI.t;rcases k with ⟨d,_,_⟩|⟨ov,vf,k⟩
   .cases d
   .have w:ev (bC S s 1 (((cE (S.now 0)).log:Nat):Int)).2 s (cE (S.now 0)) ov []=(0,(bC S s 1 (((cE (S.now 0)).log:Nat):Int)).2):=(by unfold ev;rw [aG rfl]);rw [w] at k;rcases k with ⟨d,c,_⟩|⟨_,c,rfl⟩
    .exact absurd d.symm c
    .have xV:=yB (s:=s) FI dO m C (by omega) (by omega) (by omega);have JV:S.num 1<((fj S 1 (cE (S.now 0)).log 0).top+1)*4294967296:=EY m;rw [Eh] at c⊢;have af2:=so (s:=s) pO;have Nh:∀j,j<s->(S.take.fl s).2.now j=S.now j:=λj q=>fa (S:=S.take) pO q;have fE:(S.take.fl s).2.num (fj S 1 (cE (S.now 0)).log 0).f<((fj S 1 (cE (S.now 0)).log 0).top+1)*4294967296:=by
      show (S.take.fl s).2.num 1<_;rw [vX (S:=S) (S':=(S.take.fl s).2) (Nh 1 (by omega)) (Nh 2 (by omega))];exact JV
     have S9:(fj S 1 (cE (S.now 0)).log 0).life=(S.take.fl s).2.life:=(fZ S.take s).symm;have g:=rF (S:=S.take) l s;have FB:=IY (s:=s) (L:=fj S 1 (cE (S.now 0)).log 0) g;refine⟨Decidable.byContradiction (λe=>?_),FB,λj G i=>?_⟩
     .have:=(Dv af2 xV rfl S9 fE (by show ((fj S 1 (cE (S.now 0)).log 0).start (S.take.fl s).2 s).1≠0;rw [c];exact e)).1;omega
     .refine Eq.trans ?_ (Nh j i);show ((fj S 1 (cE (S.now 0)).log 0).start (S.take.fl s).2 s).2.1.now j=_;unfold LG.start;split
      .rfl
      .split
       .rfl
       .split <;> exact(nZ af2 (by show 1+1<s;omega) _).2 j (by show 1+2<=j;omega) i
end
end
def PF (a:j<s):(DS.fresh (List.replicate (s*512) 0)).now j=zs 512:=by
 show bS (List.replicate (s*512) 0) j=zs 512;unfold bS zs;rw [List.drop_replicate,List.take_replicate];congr 1;omega
structure abG (S:DS):Prop where
 c:(bZ S 30 30 18 4).1=0
 f:(bZ S 30 30 18 4).2.fuse= -1
 i:V.Inv (bZ S 30 30 18 4).2 30 [] 3
 u:mQ ((bZ S 30 30 18 4).2.now 0) 30
 l:(cE ((bZ S 30 30 18 4).2.now 0)).log=18
 h:(cE ((bZ S 30 30 18 4).2.now 0)).home=21
 b:(cE ((bZ S 30 30 18 4).2.now 0)).blocks=9
 n:cm (bZ S 30 30 18 4).2 1=(1,0,0)
 z:∀j,3<=j->j<30->(bZ S 30 30 18 4).2.now j=zs 512
def XB (dw:S.Ok 30) (dO:S.fN) (r:S.puts.length=0) (p:S.fuse= -1) (v:S.life=1) (s:∀j,j<30->S.now j=zs 512):abG S:=by
 have e:vT (30:Nat) (18:Nat) (4:Nat):=by unfold vT;decide
 obtain⟨f,g,t,u,d,i,k⟩:=Fk (a:=30) (b:=18) (c:=4) dw dO p (by omega) (by omega) e s;obtain⟨l,m,n,o⟩:=Uj e;have q:V.Inv S 30 [] 1:=V.Inv.zero dw dO r (by omega) (by omega);have d:(bZ S 30 30 18 4).2.now 0=gY 30 18 4:=d;exact⟨f,g,q.afh (by omega) 30 18 4,by rw [d];exact l,by rw [d];exact m,by rw [d];exact n,by rw [d];exact o,i,k⟩
def I1 (hd:G.L.dead S=false) (a:G.busy=false):G.begin S=0:=by
 unfold SG.begin;rw [hd,a];rfl
def Fl {b:Int} (hd:G.L.dead S=false) (h0:0<=b) (d:b<(G.y.blocks:Int)):(⟨[],0,false⟩:TG).refusal G S b=0:=by
 have a:(⟨[],0,false⟩:TG).bU G S=0:=by unfold TG.bU;rw [hd];rfl
 have c:(⟨[],0,false⟩:TG).state G S=0:=by unfold TG.state;rw [a];rfl
 unfold TG.refusal;rw [c,aB (λh=>h rfl),aB (by omega)]
def Pw (w:World):Calls prog 10 #[] w λe w'=>e= .returned (.bool true)/\bW w w':=by
 have D:=Qd 30 w (by omega) (by omega);rw [show ((30:Nat):Int)=30 from rfl] at D;go_in;go_wp2_with fail;refine D.mono ?_;rintro e w1 ⟨p,rfl,iP,ar⟩;have af3:B.ax w1 (λk=>w.heap.size<=k/\k<w1.heap.size) p 30 (DS.fresh (List.replicate (30*512) 0)) 0:=⟨0,iP,λ_=>⟨Int.le_refl _,Int.le_refl _⟩⟩;have hm:=XB iP.ok ⟨Bytes.tP _,λq v=>by cases v⟩ rfl rfl rfl (λj J=>PF J);have dO:(DS.fresh (List.replicate (30*512) 0)).fN:=⟨Bytes.tP _,λq v=>by cases v⟩;have sT:(DS.fresh (List.replicate (30*512) 0)).puts.length=0:=rfl;generalize DS.fresh (List.replicate (30*512) 0)=X at*;have af4:∀k,(λk=>w.heap.size<=k/\k<w1.heap.size) k->w.heap.size<=k:=λk C=>C.1;have aeU:∀k,(λk=>w.heap.size<=k/\k<w1.heap.size) k->k<w1.heap.size:=λk C=>C.2;generalize (λk=>w.heap.size<=k/\k<w1.heap.size)=U at*;have E:=xm af3 dO 30 18 4 (by omega);obtain⟨Q,m2,R,m4,m5,m6,m7,m8,S⟩:=hm;rw [Q] at E;generalize (bZ X 30 30 18 4).2=b at*;obtain⟨cQ,r,G,af5,F⟩:=eQ ar R S af4 ar.size;clear D iP af3 ar dO sT Q R S af4;go_wp2_with fail;refine fQ E λw2 cI aY=>?_;obtain⟨K,an4,ii,zz2⟩:=cP (A2 cI r.qi (by have:=r.p6;omega)) cI.lt aY aY.size;clear E cI aY;go_wp2_with fail;refine K.mono ?_;rintro e w3 ⟨x,c,Y,_,mm,aZ,Ub⟩;obtain⟨y,n2,n3⟩:=L4 r.ok r.qi m2 m4 m8 (λj J=>G (1+2+j) (by omega) (by omega)) mm;rcases Ub with ⟨a,_⟩|⟨_,q,l,m,L,F',mX,rfl,YN,v,hl,hm',bj⟩
 .exact absurd y a
 .have S9:L.life=c.life:=by
   rw [mX.life];rcases mm.life with ⟨_,s⟩|s
   .exact absurd y s
   .exact s.symm
  have YW:L.dead c=false:=by
   unfold LG.dead;rw [S9,n2];simp
  have M:=(sX bj).mono (λe w' h=>by unfold sW at h;rw [aB (λh=>h (I1 YW rfl))] at h;exact h);obtain⟨vj,ia,W,lW,A,zz3⟩:=jH (((r.fC (by omega) mm).2 y L mX).p6) bj mm aZ YN aZ.size;clear K bj mm aZ YN mX y;go_wp2_with fail;refine M.mono ?_;rintro e T ⟨t,n,rfl,Bz,ht4,TD,af6,Tm,af7,dW⟩;have Ug:iw T F' p 30 Y q l m c ⟨cE (b.now 0),L, [],true⟩:=⟨ia.d.aw dW (λg f e=>ia.nq (e▸f)),af7,ia.lp.aw dW (λe=>ia.ql e.symm),ia.ch.aw dW (λe=>ia.qm e.symm),ia.nq,ia.nl,ia.nm,ia.ql,ia.qm,ia.lm,ia.lk,ia.bg,ia.hs,ia.kb⟩;obtain⟨rW,Bt,j8,Cs⟩:=cP ia.d.lt ia.st.lt ia.lp.lt ia.ch.lt;have A5:mL T F' q l m t n ⟨cE (b.now 0),L, [],true⟩ ⟨[],0,false⟩:=⟨af6,Tm,λa=>by have:=rW _ a;omega,λa=>by have:=rW _ a;omega,by omega,by omega,by omega,TD,by omega,by omega,by omega,λx a=>by cases a⟩;have u:(⟨[],0,false⟩:TG).refusal ⟨cE (b.now 0),L, [],true⟩ c 8=0:=Fl YW (by omega) (by show 8<((cE (b.now 0)).blocks:Int);omega);have DU:(⟨[],0,false⟩:TG).j3 ⟨cE (b.now 0),L, [],true⟩ c (8:Int).toNat=zs 512:=by
   show c.now ((cE (b.now 0)).home+8)=zs 512;rw [m6,n3 29 (by omega) (by omega)];exact G 29 (by omega) (by omega)
  have N:=(Ey Ug A5 8 (by omega)).mono (λe w' h=>by rw [DU] at h;unfold vM at h;rw [aB (λh=>h u)] at h;exact h);have Mw:=dW;have zz4:=dW.size;clear M af6 Tm af7 dW Ug A5 u DU;go_wp2_with fail;refine N.mono ?_;rintro e w5 ⟨⟨I,rfl,GF,aV⟩,jJ,dX⟩;have i:=aV;have fd:bW w w5:=by
   have H:∀g,more U w1 w2 g->w.heap.size<=g:=λg f=>f.elim (af5 g) (λh=>by omega);have Z:=λg f=>(A g f).elim (H g) (λh=>by omega);exact(((cQ.trans (ii.below af5 F)).trans (lW.below H (by omega))).trans (Mw.below (λg f=>by omega) (by omega))).trans (dX.below Z (by omega))
  have jr:=fd;have zz5:=dX.size;clear N aV jJ dX fd;have Yk:(Instr.makeSlice 36 (iV 512) (iV 512)).run prog w5= .ok (.slice (some (aD w5.heap.size 0)) 512 512) (w5.alloc (.cells (madeCells #[.int .u8 0] 512) 5)):=run_make_row' (P:=prog) 36 5 (.int .u8 0) 1 underlying36 gq rfl .i64 .i64 512 (by omega) (by omega) w5;obtain⟨z,MX⟩:=bP (w5.alloc (.cells (madeCells #[.int .u8 0] 512) 5));rw [<-MX] at Yk;have nL:bW w5 z:=by rw [MX];exact aJ _ _
  have BR:ay z 5 w5.heap.size 512 (bs (zs 512)):=by
   rw [MX];exact lZ (World.ownsRow_lit (base:=w5.heap.size) w5 (madeCells #[.int .u8 0] 512) 512 (bR _) (by unfold maxLen;omega) (by simp [madeCells]))
  have UG:Src z (some (aD w5.heap.size 0)) 512 (zs 512):=by have:=BR.src;rwa [bH] at this
  have O:=pD (some (aD I 0)) (some (aD w5.heap.size 0)) 512 512 512 (zs 512) z (by omega) (by
    have s:=(i.aw (nL.block I i.lt)).src (o:=0) (n:=512) (by have:=bH 512;omega);rwa [List.drop_zero,nC (by rw [bH];omega)] at s) UG
  have xG:=(jr.trans (nL.mono (by omega)));have zz6:=nL.size;clear BR nL UG MX;go_wp2_with fail;refine bJ O λw7 xI=>?_;have FH:=(xG.trans (xI.mono (by omega)));clear O xI;go_wp2;go_ret;exact⟨rfl,FH⟩
abbrev Px (p r:Value):Array Value:= #[p,r, .slice none 0 0, .slice none 0 0, .slice none 0 0, .slice none 0 0]
def Fn (w w':World) (l:List Int) (q:Nat):Prop:=
 bW w w'/\w.heap.size<=q/\(w'.heap[q]? =some (.cells (Px (.pointer none) (.pointer none)) 35 (0,0))\/
  ∃(F F2 O:Nat->Prop) (p r s:Nat) (im:List Int),W5 w' q F (λ_=>False) F2 (λ_=>False) O p r s (DS.fresh im) (DS.fresh im) 0 (.slice none 0 0) (.slice none 0 0) (.slice none 0 0) (.slice none 0 0) [] [] [] []/\(im=l\/∃m,im=List.replicate m 0)/\∀g,(F g\/F2 g\/O g)->w.heap.size<=g)
def abH {w1:World} {G:Nat->Prop} {r:Nat} (h:Two w1 w.heap.size F G p r s (DS.fresh im) (DS.fresh im)) (j:w.heap.size<=w1.heap.size):
  ∃O,W5 (w1.alloc (.cells (Px (pV p) (pV r)) 35)) w1.heap.size F (λ_=>False) G (λ_=>False) O p r s (DS.fresh im) (DS.fresh im) 0 (.slice none 0 0) (.slice none 0 0) (.slice none 0 0) (.slice none 0 0) [] [] [] []/\∀g,(F g\/G g\/O g)->w.heap.size<=g:=by
 have f:=aJ w1 (.cells (Px (pV p) (pV r)) 35);have hd:B.ax w1 F p s (DS.fresh im) 0:=⟨0,h.d,λ_=>⟨Int.le_refl _,Int.le_refl _⟩⟩;have i:=h.e.later f;have eM:(w1.alloc (.cells (Px (pV p) (pV r)) 35)).heap.size=w1.heap.size+1:=by simp
 have c:∀g,(Value.slice none 0 0).ownBlock=some g->False:=λg e=>by simp [Value.ownBlock] at e
 refine⟨λg=>g=w1.heap.size,⟨heap_alloc_new _ _,rfl,λg e=>by omega,⟨hd.later f,λ_ h=>h.elim,λ_ h=>h.elim,λ_ h=>(by cases h),λ_ h=>(by cases h),List.nodup_nil,List.nodup_nil,List.nodup_nil,List.nodup_nil⟩,⟨i,λ_ h=>h.elim,λ_ h=>h.elim,λ_ h=>(by cases h),λ_ h=>(by cases h),List.nodup_nil,List.nodup_nil,List.nodup_nil,λ_ _ _ _ h=>(by simp at h),λ_ _ _ _ h=>(by simp at h),λ_ h=>(by cases h)⟩,World.ownsRow_nil _ _ _ _,λg e=>(c g e).elim,World.ownsRow_nil _ _ _ _,λg e=>(c g e).elim,World.ownsRow_nil _ _ _ _,λg e=>(c g e).elim,World.ownsRow_nil _ _ _ _,λg e=>(c g e).elim,λg b a=>?_,λg e a=>?_,λg e a=>?_⟩,λg b=>?_⟩
 .rcases b with b|b
  .rcases a with a|a
   .exact h.fO g b a
   .exact a
  .exact b
 .rcases a with a|a
  .have:=hd.lt g a;omega
  .exact a
 .rcases a with a|a
  .have:=h.e.lt g a;omega
  .exact a
 .rcases b with b|b|b
  .exact h.fF g b
  .exact h.fG g b
  .omega
def Bb (bS:Int) (a:Option Addr) (n c:Nat) (l:List Int) (w:World) (g:Src w a n l) (u:n<=140737488355328) (zT:n<=c):
  Calls prog 9 #[iV bS, .slice a n c] w λe w'=>∃q,e= .returned (.tuple #[pV q, .bool true])/\Fn w w' l q:=by
 have f:=Oi bS a n c l w w.heap.size (bR _) g u zT;clear g;go_in;go_wp2_with fail;refine f.mono ?_;rintro e w1 ⟨d,r,rfl,ar,⟨rfl,rfl⟩|⟨F,G,p,q,s,im,rfl,rfl,i,t,m,o⟩⟩
 .have b:(Fn w (w1.alloc (.cells (Px (.pointer none) (.pointer none)) 35)) l w1.heap.size):=⟨ar.trans ((aJ w1 _).mono ar.size),ar.size, .inl (heap_alloc_new _ _)⟩;clear f ar;go_wp2;go_ret2;exact⟨_,rfl,b⟩
 .have b:(Fn w (w1.alloc (.cells (Px (pV p) (pV q)) 35)) l w1.heap.size):=by
   obtain⟨O,j,k⟩:=abH i ar.size;exact⟨ar.trans ((aJ w1 _).mono ar.size),ar.size, .inr ⟨F,G,O,p,q,s,im,j,t,k⟩⟩
  clear f ar i m o;go_wp2;go_ret2;exact⟨_,rfl,b⟩
def I2 {r:Nat} {F2 O:Nat->Prop} (h:W5 w q F (λ_=>False) F2 (λ_=>False) O p r s (DS.fresh im) (DS.fresh im) 0 (.slice none 0 0) (.slice none 0 0) (.slice none 0 0) (.slice none 0 0) [] [] [] []) (b:im=l\/∃m,im=List.replicate m 0) (a:Bytes l):Lk (DS.fresh im) s 1 [] [] [] []:=by
 refine⟨rfl,λ_ _ _ h=>(by simp at h),rfl,λ_ _ _ h=>(by simp at h),V.Inv.zero h.pw.d.ok ⟨?_,λq c=>by cases c⟩ rfl (show (0:Int)<=1 by decide) (show (1:Int)<=1 by decide),λ_ _ _ h=>(by simp at h),λ_ h=>(by cases h),λ_ _ _ h=>(by simp at h),rfl⟩;rcases b with rfl|⟨m,rfl⟩
 .exact a
 .exact Bytes.tP m
section
open Go.ChangeShapes Go.WideShapes Go.ChangeAt Go.RowKit Go.Deep
def Py:prog.bytesOf 115=24:=by kernel_rfl
def Uk:prog.bytesOf 41=104:=by kernel_rfl
def Bc:prog.cellsOf 37=1:=by kernel_rfl
def DB:prog.cellsOf 115=3:=by kernel_rfl
def wk:prog.cellsOf 39=3:=by kernel_rfl
def Bd:prog.cellsOf 41=9:=by kernel_rfl
structure I3 (w:World) (B:Nat) (ag A:Int) (da:Option Addr) (dn dc:Nat) (pa:Option Addr) (pn:Nat) (d:List Int) (pl:List P3):Prop where
 g:ag<=9223372036854775807
 A:A<=9223372036854775807
 s:Src w da dn d
 b:Bytes d
 c:dn<=dc
 n:dn<=140737488355328
 l:∀y,da=some y->0<dn->y.block<B
 p:ll w pa pn pl
 pq:∀y,pa=some y->0<pn->y.block<B
 pn:24*pn<=140737488355328
def I3.kZ {B:Nat} {A:Int} {e:List P3} (h:I3 w B ag A da dn dc pa pn d e) (a:Below B w w'):I3 w' B ag A da dn dc pa pn d e:=
   ⟨h.g,h.A,h.s.kZ a h.l,h.b,h.c,h.n,h.l,h.p.kZ a h.pq,h.pq,h.pn⟩
def I3.ak4 {A':Nat->Prop} {B:Nat} {A:Int} {e:List P3} (h:I3 w B ag A da dn dc pa pn d e) (b:∀g,A' g->B<=g) (c:B<=w.heap.size):(∀W,aa A' w W->Src W da dn d)/\∀W,aa A' w W->ll W pa pn e:=
   ⟨λ_ a=>h.s.kZ (a.below b c) h.l,λ_ a=>h.p.kZ (a.below b c) h.pq⟩
def uX (w:World) (B:Nat) (sa:Option Addr) (n:Nat):Prop:=
   (sa=none->n=0)/\∀y,sa=some y->∀i,i<n->∃b o,y=(aD b o)/\b<B/\∃kd ag A B' da dn dc pa pn pc x y' z d pl,
  w.cell? ⟨b,o+i*9,none⟩=some (iV kd)/\w.cell? ⟨b,o+i*9+1,none⟩=some (iV ag)/\w.cell? ⟨b,o+i*9+2,none⟩=some (iV A)/\w.cell? ⟨b,o+i*9+3,none⟩=some (iV B')/\w.cell? ⟨b,o+i*9+4,none⟩=some (.slice da dn dc)/\w.cell? ⟨b,o+i*9+5,none⟩=some (.slice pa pn pc)/\w.cell? ⟨b,o+i*9+6,none⟩=some (iV x)/\w.cell? ⟨b,o+i*9+7,none⟩=some (iV y')/\w.cell? ⟨b,o+i*9+8,none⟩=some (iV z)/\I3 w B ag A da dn dc pa pn d pl
def uX.kZ {B:Nat} {f:Option Addr} (h:uX w B f n) (c:Below B w w'):uX w' B f n:=by
 refine⟨h.1,λy F i D=>?_⟩;obtain⟨b,o,rfl,GX,G,g,A,B',u,C,v,H,K,I,x,L,z,d,J,j,k,l,m,p,q,r,s,t,E⟩:=h.2 y F i D;have e:=c.block b GX;exact⟨b,o,rfl,GX,G,g,A,B',u,C,v,H,K,I,x,L,z,d,J,(World.cell?_of_block (w:=w) (a:=(aD b _)) e).trans j,(World.cell?_of_block (w:=w) (a:=(aD b _)) e).trans k,(World.cell?_of_block (w:=w) (a:=(aD b _)) e).trans l,(World.cell?_of_block (w:=w) (a:=(aD b _)) e).trans m,(World.cell?_of_block (w:=w) (a:=(aD b _)) e).trans p,(World.cell?_of_block (w:=w) (a:=(aD b _)) e).trans q,(World.cell?_of_block (w:=w) (a:=(aD b _)) e).trans r,(World.cell?_of_block (w:=w) (a:=(aD b _)) e).trans s,(World.cell?_of_block (w:=w) (a:=(aD b _)) e).trans t,E.kZ c⟩
section
variable {H:Type} {enc:TypeId×Value->H} {W:World} {base:Nat} {spare:Nat->Bool} {held:Bool}
def YX {P:Program} {f g i j c d l:Field} {cs:List Value} {x:DataW H×List MemPlace} (p:P.underlying e=some (.struct #[f,g,i,j,c,d,l])) (J:P.cellsOf e=9) (K:f.offset=0) (L:g.offset=1) (M:i.offset=2) (N:j.offset=3) (O:c.offset=4) (Q:d.offset=5) (R:l.offset=6)
    (A:P.cellsOf f.type=1) (C:P.cellsOf g.type=1) (D:P.cellsOf i.type=1) (E:P.cellsOf j.type=1) (F:P.cellsOf c.type=1) (G:P.cellsOf d.type=1) (I:P.cellsOf l.type=3) (h:DataW.trod enc P W base spare held n e cs=some x):
  ∃v0 v1 v2 v3 v4 v5 v6 v7 v8 y0 y1 y2 y3 y4 y5 y6 k,cs= [v0,v1,v2,v3,v4,v5,v6,v7,v8]/\x.1= .agg [y0.1,y1.1,y2.1,y3.1,y4.1,y5.1,y6.1]/\DataW.trod enc P W base spare held k f.type [v0]=some y0/\DataW.trod enc P W base spare held k g.type [v1]=some y1/\DataW.trod enc P W base spare held k i.type [v2]=some y2/\DataW.trod enc P W base spare held k j.type [v3]=some y3/\DataW.trod enc P W base spare held k c.type [v4]=some y4/\DataW.trod enc P W base spare held k d.type [v5]=some y5/\DataW.trod enc P W base spare held k l.type [v6,v7,v8]=some y6/\(∀m∈y4.1.weights P c.type,m∈x.1.weights P e)/\(∀m∈y5.1.weights P d.type,m∈x.1.weights P e):=by
 obtain⟨xs,k,_,r,a,Jf,b⟩:=DataW.trod_struct p h;rw [J] at a
 match xs,Jf,cs,a with
 | [y0,y1,y2,y3,y4,y5,y6],_, [v0,v1,v2,v3,v4,v5,v6,v7,v8],_=>
  obtain⟨s,t,u,v,w,y,z⟩:=nD (b 0 f rfl) (b 1 g rfl) (b 2 i rfl) (b 3 j rfl) (b 4 c rfl) (b 5 d rfl) (b 6 l rfl);simp [K,L,M,N,O,Q,R,A,C,D,E,F,G,I] at s t u v w y z;have o:x.1= .agg [y0.1,y1.1,y2.1,y3.1,y4.1,y5.1,y6.1]:=by rw [r];rfl
  refine⟨v0,v1,v2,v3,v4,v5,v6,v7,v8,y0,y1,y2,y3,y4,y5,y6,k,rfl,o,s,t,u,v,w,y,z,λm q=>?_,λm q=>?_⟩
  .rw [o];simp [DataW.weights,p,DataW.weightsEach,q]
  .rw [o];simp [DataW.weights,p,DataW.weightsEach,q]
def Be {n:Int} (h:(Lit.int .i64 n).wf=true):n<=9223372036854775807:=by
 have:=h;simp [Lit.wf] at this;omega
def L5 {d:DataW H} {pl:List MemPlace} (h:DataW.trod enc prog W base spare held fuel 37 [v]=some (d,pl)) (T:∀n∈d.weights prog 37,n<=reachBytes):
  ∃a n c l,v= .slice a n c/\ll W a n l/\24*n<=140737488355328:=by
 rcases open_slice underlying37 h with ⟨mv,_⟩|⟨x,e,t,m,k,D,Pl,mv,_,hl,hm,Cp,hd,s⟩
 .simp only [List.cons.injEq,and_true] at mv;exact⟨none,0,0, [],mv,⟨rfl,λ_=>rfl,(λx s=>by cases s),λq w=>by cases w⟩,dL _⟩
 .simp only [List.cons.injEq,and_true] at mv;simp only [Prod.mk.injEq] at hd;replace hd:=hd.1;subst hd;have ym:e<=m:=by rw [Cp];split <;> omega
  have I:=T ((((List.range e).map D).length+((List.range (m-e)).map λj=>D (e+j)).length)*prog.bytesOf 115) (by simp [DataW.weights,underlying37]);rw [Py] at I;simp only [jF,List.length_range,reachBytes] at I;rw [DB] at s;have g:∀i,i<e->∃q:P3,W.cell? (x.add (i*3))=some (iV q.1)/\W.cell? (x.add (i*3+1))=some (iV q.2.1)/\W.cell? (x.add (i*3+2))=some (iV q.2.2)/\q.1<=9223372036854775807/\q.2.1<=9223372036854775807/\q.2.2<=9223372036854775807:=by
   intro i r;obtain⟨N,O,P⟩:=s i (by omega);obtain⟨_,J,cU⟩:=World.cells?_some O;obtain⟨v0,v1,v2,y0,y1,y2,k',rfl,_,Q,R,S⟩:=XM underlying115 DB rfl rfl rfl fD fD fD P;obtain⟨X,K,_,w0⟩:=DataW.trod_int underlying3 Q;obtain⟨Y,L,_,w1⟩:=DataW.trod_int underlying3 R;obtain⟨Z,M,_,w2⟩:=DataW.trod_int underlying3 S;simp only [List.cons.injEq,and_true] at K L M;subst K L M;have E:=cU 0 (by omega);have F:=cU 1 (by omega);have G:=cU 2 (by omega);rw [add_add] at E F G;exact⟨(X,Y,Z),by simpa using E,by simpa using F,by simpa using G,Be w0,Be w1,Be w2⟩
  obtain⟨f,u⟩:=choose_lt g;refine⟨some x,e,t,(List.range e).map f,mv,⟨by simp,(λh=>by cases h),λy U i r=>?_,λq w=>?_⟩,by omega⟩
  .cases U;have nF:i<e:=(by simpa using r);obtain⟨z,A,C,_⟩:=u i nF;obtain⟨z0,_⟩:=u 0 (by omega);obtain⟨b,o,p⟩:=x;have I4:p=none:=(by simpa [Addr.add] using World.cell?_spot z0);subst I4;rw [aN] at z A C;exact⟨b,o,rfl,by simpa using z,by simpa [Nat.add_assoc] using A,by simpa [Nat.add_assoc] using C⟩
  .obtain⟨i,r,rfl⟩:=List.mem_map.1 w;exact(u i (List.mem_range.1 r)).2.2.2
def ll.old {W:World} {a:Option Addr} {l:List P3} (h:ll W a n l):∀x,a=some x->0<n->x.block<W.heap.size:=λx e d=>by
 obtain⟨b,o,rfl,c,_⟩:=h.2.2.1 x e 0 (by rw [h.1];exact d);exact World.block_lt_of_cell? _ _ c
def Pz {d:DataW H} {J:List MemPlace} (h:DataW.trod enc prog W base spare held fuel 22 [v]=some (d,J)) (P:∀n∈d.weights prog 22,n<=reachBytes):
  ∃a n c,v= .slice a n c/\uX W W.heap.size a n/\104*n<=140737488355328:=by
 rcases open_slice underlying22 h with ⟨mv,_⟩|⟨x,e,G,m,k,D,Pl,mv,_,hl,F,Cp,hd,p⟩
 .simp only [List.cons.injEq,and_true] at mv;exact⟨none,0,0,mv,⟨λ_=>rfl,(λx p=>by cases p)⟩,dL _⟩
 .simp only [List.cons.injEq,and_true] at mv;simp only [Prod.mk.injEq] at hd;replace hd:=hd.1;subst hd;have ym:e<=m:=by rw [Cp];split <;> omega
  have K:=P ((((List.range e).map D).length+((List.range (m-e)).map λj=>D (e+j)).length)*prog.bytesOf 41) (by simp [DataW.weights,underlying22]);rw [Uk] at K;simp only [jF,List.length_range,reachBytes] at K;rw [Bd] at p;have g:∀i,i<e->∀n∈(D i).weights prog 41,n<=reachBytes:=λi E n hn=>P n (by
   simp only [DataW.weights,underlying22];exact List.mem_cons_of_mem _ (List.mem_append_left _ (pN (List.mem_map.2 ⟨i,List.mem_range.2 E,rfl⟩) hn)))
  refine⟨some x,e,G,mv,⟨(λh=>by cases h),λy hy i E=>?_⟩,by omega⟩;cases hy;obtain⟨cs',e1,e2⟩:=p i (by omega);obtain⟨_,L,cU⟩:=World.cells?_some e1;obtain⟨v0,v1,v2,v3,v4,v5,v6,v7,v8,y0,y1,y2,y3,y4,y5,y6,k',rfl,_,g0,g1,g2,g3,g4,g5,g6,I,ak5⟩:=YX underlying41 Bd rfl rfl rfl rfl rfl rfl rfl fD fD fD fD zb Bc wk e2;obtain⟨a,na,ca,l,rfl,N,hb,hc,i7⟩:=JQ g4 (λm F=>g i E m (I m F));obtain⟨pa,pn,pc,J,rfl,M,nH⟩:=L5 g5 (λm F=>g i E m (ak5 m F));obtain⟨u6,u7,u8,t6,t7,t8,k6,O,_,s6,s7,s8⟩:=XM underlying39 wk rfl rfl rfl fD fD fD g6;simp only [List.cons.injEq,and_true] at O;obtain⟨rfl,rfl,rfl⟩:=O;obtain⟨n0,Q,_,w0⟩:=DataW.trod_int underlying3 g0;obtain⟨n1,R,_,w1⟩:=DataW.trod_int underlying3 g1;obtain⟨n2,S,_,w2⟩:=DataW.trod_int underlying3 g2;obtain⟨n3,T,_,w3⟩:=DataW.trod_int underlying3 g3;obtain⟨n6,U,_,w6⟩:=DataW.trod_int underlying3 s6;obtain⟨n7,X,_,w7⟩:=DataW.trod_int underlying3 s7;obtain⟨n8,Y,_,w8⟩:=DataW.trod_int underlying3 s8;simp only [List.cons.injEq,and_true] at Q R S T U X Y;subst Q R S T U X Y;have f:=cU 0 (by omega);have r:=cU 1 (by omega);have s:=cU 2 (by omega);have t:=cU 3 (by omega);have u:=cU 4 (by omega);have w:=cU 5 (by omega);have z:=cU 6 (by omega);have A:=cU 7 (by omega);have C:=cU 8 (by omega);rw [add_add] at f r s t u w z A C;obtain⟨cs0,z1,z2⟩:=p 0 (by omega);obtain⟨b0,b1,b2,b3,b4,b5,b6,b7,b8,_,_,_,_,_,_,_,_,rfl,_⟩:=YX underlying41 Bd rfl rfl rfl rfl rfl rfl rfl fD fD fD fD zb Bc wk z2;obtain⟨_,_,af8⟩:=World.cells?_some z1;have Z:=af8 0 (by omega);rw [add_add] at Z;obtain⟨b,o,q⟩:=x;have I4:q=none:=by simpa [Addr.add] using World.cell?_spot Z
  subst I4;rw [aN] at f r s t u w z A C;simp at f r s t u w z A C;exact⟨b,o,rfl,World.block_lt_of_cell? _ _ f,n0,n1,n2,n3,a,na,ca,pa,pn,pc,n6,n7,n8,l,J,f,by simpa [Nat.add_assoc] using r,by simpa [Nat.add_assoc] using s,by simpa [Nat.add_assoc] using t,by simpa [Nat.add_assoc] using u,by simpa [Nat.add_assoc] using w,by simpa [Nat.add_assoc] using z,by simpa [Nat.add_assoc] using A,by simpa [Nat.add_assoc] using C,⟨Be w1,Be w2,N,hb,hc,i7,N.old,M,M.old,nH⟩⟩
end
end
def Ul (w:World) (B:Nat) (a:Option Addr) (n:Nat):Prop:=(a=none->n=0)/\∀y,a=some y->∀i,i<n->∃b o,y=(aD b o)/\b<B/\∃t:Int,w.cell? ⟨b,o+i,none⟩=some (iV t)
def Ul.kZ {B:Nat} {a:Option Addr} (h:Ul w B a n) (d:Below B w w'):Ul w' B a n:=by
 refine⟨h.1,λy f i e=>?_⟩;obtain⟨b,o,rfl,GX,t,c⟩:=h.2 y f i e;exact⟨b,o,rfl,GX,t,(World.cell?_of_block (w:=w) (a:=(aD b _)) (d.block b GX)).trans c⟩
def E5.aw {r:Nat} (h:E5 w q A p r s N) (j:aa Z w w') (f:∀g,A g->¬Z g):E5 w' q A p r s N:=by
 obtain⟨F,P,F2,X,O,S,c,m,n,o,t,k,l,rs,us,b,d,a,e⟩:=h;exact⟨F,P,F2,X,O,S,c,m,n,o,t,k,l,rs,us,b.aw j (λg i=>f g (a g i)),d,a,e⟩
def E5.more {r:Nat} (h:E5 w q A p r s N) (e:N<=M):E5 w q A p r s M:=by
 obtain⟨F,P,F2,X,O,S,c,i,j,k,l,f,g,rs,us,a,b,d,m,n,o⟩:=h;exact⟨F,P,F2,X,O,S,c,i,j,k,l,f,g,rs,us,a,b.more e,d,by omega,by omega,by omega⟩
def E5.tight {r:Nat} (h:E5 w q A p r s N):∃A0,E5 w q A0 p r s N/\∀g,A0 g->A g/\g<w.heap.size:=by
 obtain⟨F,P,F2,X,O,S,c,k,l,m,n,i,j,rs,us,a,d,e,f⟩:=h;exact⟨λg=>F g\/P g\/F2 g\/X g\/O g,⟨F,P,F2,X,O,S,c,k,l,m,n,i,j,rs,us,a,d,λ_ h=>h,f⟩,λg b=>⟨e g b,a.under g b⟩⟩
def jV (w wr:World) (q p r s q' p' r' s' j:Nat):Prop:=bW w wr/\∃A A',(E5 wr q A p r s (2*j+1)/\∀g,A g->w.heap.size<=g/\g<wr.heap.size)/\(E5 wr q' A' p' r' s' (2*j+1)/\∀g,A' g->w.heap.size<=g/\g<wr.heap.size)/\∀g,A g->¬A' g
def jV.swap {wr:World} {r:Nat} (h:jV w wr q p r s q' p' r' s' j):jV w wr q' p' r' s' q p r s j:=by
 obtain⟨a,A,A',b,c,d⟩:=h;exact⟨a,A',A,c,b,λg e f=>d g f e⟩
def jV.later {wr V:World} {r:Nat} (h:jV w wr q p r s q' p' r' s' j) (b:bW wr V):jV w V q p r s q' p' r' s' j:=by
 obtain⟨e,A,A',⟨i,c⟩,⟨k,d⟩,l⟩:=h;have f:=aa.ah (λ_=>False) b;exact⟨e.trans (b.mono e.size),A,A',⟨i.aw f (λ_ _ h=>h),λg a=>⟨(c g a).1,iL (c g a).2 b.size⟩⟩,⟨k.aw f (λ_ _ h=>h),λg a=>⟨(d g a).1,iL (d g a).2 b.size⟩⟩,l⟩
def jV.first {wr:World} {r:Nat} (h:jV w wr q p r s q' p' r' s' j) (Z:2*j+1<=3999999990000) (M t o K:Int) (v:Option Addr) (D C:Nat) (H:Option Addr) (I N:Nat) (x y z:Int) (d:List Int) (Q:List P3) (f:I3 wr w.heap.size t o v D C H I d Q):
  Calls prog 12 #[pV q, .agg (jG M t o K v D C H I N x y z)] wr λe w'=>e= .returned (.bool true)/\jV w w' q p r s q' p' r' s' (j+1):=by
 obtain⟨l,A,A',⟨⟨F,P,F2,X,O,S,c,v1,v2,v3,v4,ss,ts,rs,us,Y,W,U,vu,bq,oG⟩,k⟩,⟨T,u⟩,BA⟩:=h;obtain⟨yq,E⟩:=f.ak4 (A':=A) (λg a=>(k g a).1) l.size;refine(Pt (A:=A) Y W U (λg a=>(k g a).2) vu bq oG Z M t o K v D C H I N x y z f.g f.A d yq f.b f.n Q E f.pn).mono ?_;rintro e w' ⟨rfl,A1,k1,G,L⟩;obtain⟨R,t1,J⟩:=k1.tight;have UD:=l.size;refine⟨rfl,l.trans (G.below (λg a=>(k g a).1) l.size),R,A',⟨t1,λg a=>⟨?_,(J g a).2⟩⟩,⟨(T.aw G (λg a m=>BA g m a)).more (by omega),λg a=>⟨(u g a).1,iL (u g a).2 G.size⟩⟩,λg a m=>?_⟩
 .rcases L g (J g a).1 with i|i
  .exact(k g i).1
  .omega
 .rcases L g (J g a).1 with i|i
  .exact BA g i m
  .have:=(u g m).2;omega
def jV.second {wr:World} {r:Nat} (h:jV w wr q p r s q' p' r' s' j) (t:2*j+1<=3999999990000) (m b a l:Int) (c:Option Addr) (g f:Nat) (i:Option Addr) (k n:Nat) (x y z:Int) (d:List Int) (o:List P3) (u:I3 wr w.heap.size b a c g f i k d o):
  Calls prog 12 #[pV q', .agg (jG m b a l c g f i k n x y z)] wr λe w'=>e= .returned (.bool true)/\jV w w' q p r s q' p' r' s' (j+1):=
   (h.swap.first t m b a l c g f i k n x y z d o u).mono (λ_ _ h=>⟨h.1,h.2.swap⟩)
def jV.looks {wr:World} {r:Nat} (h:jV w wr q p r s q' p' r' s' j) (y:2*j+1<=3999999990000):
  Calls prog 13 #[pV q] wr λe w'=>e= .returned (.bool true)/\bW w w'/\∀(v:True),jV w w' q p r s q' p' r' s' (j+1):=by
 obtain⟨u,A,A',⟨⟨F,P,F2,X,O,S,c,D,E,G,H,z,C,rs,us,b,l,o,vu,bq,oG⟩,m⟩,⟨x,n⟩,BA⟩:=h;have Kw:=b.pw.d.ok.hi;refine(T6 b.pw.d b.rw.e (λk f i=>b.ad k (.inl f) (.inl i)) b.box (λi=>b.oa q b.oq (.inl i)) (by have:=l.inv.p6;omega) l.rf (by omega)).mono ?_;rintro e w' ⟨rfl,hd,f⟩;have t:=λg a=>o g (.inl a);have gN:=u.trans (f.below (λg a=>(m g (t g a)).1) u.size);have eM:=f.size;exact⟨rfl,gN,λ_=>⟨gN,A,A',⟨⟨_,_,_,_,_,_,c+s,_,_,_,_,_,_,_,_,b.prog (b.pw.lB (λg h=> .inl h) hd f) (f.mono (λg h=> .inl h)) (λg h=> .inl h) rfl rfl,l.more (by omega),o,by omega,by omega,by omega⟩,λg a=>⟨(m g a).1,iL (m g a).2 eM⟩⟩,⟨(x.aw f (λg a i=>BA g (t g i) a)).more (by omega),λg a=>⟨(n g a).1,iL (n g a).2 eM⟩⟩,BA⟩⟩
def jV.ref {wr:World} {r:Nat} (h:jV w wr q p r s q' p' r' s' j):wr.cell? (aD q 1)=some (pV r)/\Calls prog 11 #[pQ r] wr λe w'=>e= .returned (iV s)/\w'=wr:=by
 obtain⟨g,A,A',⟨⟨F,P,F2,X,O,S,c,l,m,n,o,i,k,rs,us,a,d,b,vu,bq,oG⟩,f⟩,_⟩:=h;exact⟨a.c1,kU a.rw.e⟩
def Bf (left right:Int) (sa:Option Addr) (sn sc:Nat) (ta:Option Addr) (W tc:Nat) (w:World) (hsc:uX w w.heap.size sa sn) (i7:104*sn<=140737488355328) (hts:Ul w w.heap.size ta W) (TD:W<=140737488355328):
  Calls prog 3 #[iV left,iV right, .slice sa sn sc, .slice ta W tc] w λe w'=>e= .returned (.bool true)/\bW w w':=by
 have jI:∀w',Src w' none 0 []:=λw'=>⟨rfl,λ_=>rfl,λx hx=>by cases hx⟩;have h1:=Bb left none 0 0 [] w (jI w) (by omega) (by omega);have ak6:=yh jI;have Um:=yh hsc;have K:=yh hts;have Xc:Yh (Bytes ([]:List Int)):=λx hx=>by cases hx
 clear jI hsc hts;go_in;go_wp2_with fail;refine h1.mono ?_;rintro e w1 ⟨q,rfl,ar,hq,dD⟩;have cQ:=yh ar;have HO:=yh dD;have dE:=ar.size;clear h1 ar dD;go_wp2_with fail;refine(Bb right none 0 0 [] w1 (ak6.o w1) (by omega) (by omega)).mono ?_;rintro e w2 ⟨q',rfl,bd,XS,af9⟩;obtain⟨h3,em,dZ,HTw⟩:=cP (Pw w2) bd.size (yh bd) (yh af9);clear bd af9;go_wp2_with fail;refine bJ h3 λG bz=>?_;have PA:=dZ.o.trans (bz.mono em);have fS:Yh (bW w G):=cQ.o.trans (PA.mono dE);have lq:=bz.size;clear h3;rcases HO.o with iu|⟨F,F2,O,p,r,s,im,hW,Zd,oo⟩
 .have lJ:=(PA.block q (aq iu)).trans iu;have J:=aM lJ;clear bz PA iu lJ;go_wp2;go_ret;exact⟨rfl,fS.o⟩
 .have io:=hW.later PA;have J:=io.c0;rcases HTw.o with iu|⟨F',F2',O',p',r',s',im',hX,aga,Eh⟩
  .have lJ:=(bz.block q' (aq iu)).trans iu;have LH:=aM lJ;clear bz PA iu lJ hW io;go_wp2;go_ret;exact⟨rfl,fS.o⟩
  .have YO:=hX.later bz;have LH:=YO.c0;have HR:Yh (jV w G q p r s q' p' r' s' 0):=by
    refine⟨fS.o,λg=>F g\/F2 g\/O g,λg=>F' g\/F2' g\/O' g,⟨⟨F,_,F2,_,O,_,0,_,_,_,_,_,_,_,_,io,I2 io Zd Xc.o,λg a=>?_,dL _,dL _,dL _⟩,λg a=>⟨oo g a,io.under g ?_⟩⟩,⟨⟨F',_,F2',_,O',_,0,_,_,_,_,_,_,_,_,YO,I2 YO aga Xc.o,λg a=>?_,dL _,dL _,dL _⟩,λg a=>⟨by have:=Eh g a;omega,YO.under g ?_⟩⟩,λg a hx=>?_⟩
    .rcases a with a|a|a|a|a
     .exact .inl a
     .exact a.elim
     .exact .inr (.inl a)
     .exact a.elim
     .exact .inr (.inr a)
    .rcases a with a|a|a
     .exact .inl a
     .exact .inr (.inr (.inl a))
     .exact .inr (.inr (.inr (.inr a)))
    .rcases a with a|a|a|a|a
     .exact .inl a
     .exact a.elim
     .exact .inr (.inl a)
     .exact a.elim
     .exact .inr (.inr a)
    .rcases a with a|a|a
     .exact .inl a
     .exact .inr (.inr (.inl a))
     .exact .inr (.inr (.inr (.inr a)))
    .have a1:=Eh g hx;have a2:=hW.under g (by
      rcases a with a|a|a
      .exact .inl a
      .exact .inr (.inr (.inl a))
      .exact .inr (.inr (.inr (.inr a))))
     omega
   clear bz PA hW io hX YO Zd aga oo Eh HO HTw fS;go_wp2;clear J LH;go_loopw [13,14,15,16] (λi _ _ _ wr=>∃j:Nat,j<=sn/\i=iV (j:Int)/\jV w wr q p r s q' p' r' s' j) (λi _ _ _ _=>sn-(intOf i).toNat);case atStart=>exact⟨0,dL _,rfl,HR.o⟩
   case round=>
    clear HR;obtain⟨j,hj,rfl,pP⟩:=hrel;by_cases bq:j<sn
    .have cC:(j:Int)<(sn:Int):=(by omega);obtain⟨y,rfl⟩:∃y,sa=some y:=by
      cases sa with
      |none=>have:=Um.o.1 rfl;omega
      |some y=>exact⟨y,rfl⟩
     obtain⟨b,o,rfl,GX,A,l,f,k,m,u,n,C,E,D,x,H,z,d,U,J,L,M,N,P,Q,R,S,T,I⟩:=(Um.o.kZ pP.1).2 y rfl j bq;have bz:=aJ wr (.cells (jG A l f k m u n C E D x H z) 41);have XC:=pP.1.size;have vt:=bz.size;have uj:=I.kZ (bz.mono XC);have pY:(wr.alloc (.cells (jG A l f k m u n C E D x H z) 41)).heap[wr.heap.size]? =some (.cells (jG A l f k m u n C E D x H z) 41 (0,0)):=heap_alloc_new _ _;have eJ:∀v:Int,bW wr (wr.alloc (.cells (jG A l f k m u n C E D v H z) 41)):=λv=>aJ wr _;have Bz:∀v:Int,(wr.alloc (.cells (jG A l f k m u n C E D v H z) 41)).heap[wr.heap.size]? =some (.cells (jG A l f k m u n C E D v H z) 41 (0,0)):=λv=>heap_alloc_new _ _;obtain⟨X,Y,Z,z3,z4,z5,z6,z7,z8⟩:=gU pY;by_cases ht0:W=0
     .subst ht0;by_cases Rc:A=1
      .subst Rc;by_cases wI:x=0
       .subst wI;have bj:=(pP.later bz).first (by omega) 1 l f k m u n C E D 0 H z d U uj;clear pP I uj Um K bz eJ pY Bz;go_wp2_with fail;refine bJ bj λG nc=>?_;have c:=yh nc;clear bj nc J L M N P Q R S T X Y Z z3 z4 z5 z6 z7 z8;go_wp2;go_roundw;case rel=>exact⟨j+1,by omega,by go_num,c.o⟩
        case measure=>simp [intOf];omega
       .have g2:(x != 0)=true:=(by rw [gg];exact wI);clear wI;obtain⟨d1,my⟩:=(pP.later bz).ref;have bj:=(pP.later (eJ s)).first (by omega) 1 l f k m u n C E D (s:Int) H z d U (I.kZ ((eJ s).mono XC));obtain⟨u0,u1,u2,u3,u4,u5,u6,u7,u8⟩:=gU (Bz s);have xO:=ae pY 6;clear pP I uj Um K bz eJ pY Bz;go_wp2_with fail;refine bJ my λG ec=>?_;have eH:=ec.symm;clear ec my;subst eH;go_wp2_with fail;refine bJ bj λG nc=>?_;have c:=yh nc;clear bj nc u0 u1 u2 u3 u4 u5 u6 u7 u8 xO d1 J L M N P Q R S T X Y Z z3 z4 z5 z6 z7 z8;go_wp2;go_roundw;case rel=>exact⟨j+1,by omega,by go_num,c.o⟩
        case measure=>simp [intOf];omega
      .have g1:(A == 1)=false:=(by rw [fy];exact Rc);have bj:=(pP.later bz).first (by omega) A l f k m u n C E D x H z d U uj;clear pP I uj Um K bz eJ pY Bz;go_wp2_with fail;refine bJ bj λG nc=>?_;have c:=yh nc;clear bj nc J L M N P Q R S T X Y Z z3 z4 z5 z6 z7 z8;go_wp2;go_roundw;case rel=>exact⟨j+1,by omega,by go_num,c.o⟩
       case measure=>simp [intOf];omega
     .obtain⟨zt,rfl⟩:∃zt,ta=some zt:=by
       cases ta with
       |none=>exact absurd (K.o.1 rfl) ht0
       |some zt=>exact⟨zt,rfl⟩
      obtain⟨i,hi⟩:∃i:Nat,i=j%W:=⟨_,rfl⟩;have L6:i<W:=(by rw [hi];exact Nat.mod_lt _ (by omega));obtain⟨bt,ot,rfl,asd,t,ct⟩:=(K.o.kZ pP.1).2 zt rfl i L6;have rP:(0:Int)<(W:Int):=(by omega);have Qz:(j:Int)%(W:Int)=(i:Int):=(by rw [hi];push_cast;rfl);have PB:(i:Int)<(W:Int):=(by omega);clear hi;by_cases agb:(t.tmod 2 != 0)=true
      .skip
       by_cases Rc:A=1
       .subst Rc;by_cases wI:x=0
        .subst wI;have bj:=(pP.later bz).second (by omega) 1 l f k m u n C E D 0 H z d U uj;clear pP I uj Um K bz eJ pY Bz;go_wp2_with fail;refine bJ bj λG nc=>?_;have c:=yh nc;clear bj nc J L M N P Q R S T X Y Z z3 z4 z5 z6 z7 z8 ct Qz rP PB L6;go_wp2;go_roundw;case rel=>exact⟨j+1,by omega,by go_num,c.o⟩
         case measure=>simp [intOf];omega
        .have g2:(x != 0)=true:=(by rw [gg];exact wI);clear wI;obtain⟨d1,my⟩:=(pP.later bz).swap.ref;have bj:=(pP.later (eJ s')).second (by omega) 1 l f k m u n C E D (s':Int) H z d U (I.kZ ((eJ s').mono XC));obtain⟨u0,u1,u2,u3,u4,u5,u6,u7,u8⟩:=gU (Bz s');have xO:=ae pY 6;clear pP I uj Um K bz eJ pY Bz;go_wp2_with fail;refine bJ my λG ec=>?_;have eH:=ec.symm;clear ec my;subst eH;go_wp2_with fail;refine bJ bj λG nc=>?_;have c:=yh nc;clear bj nc u0 u1 u2 u3 u4 u5 u6 u7 u8 xO d1 J L M N P Q R S T X Y Z z3 z4 z5 z6 z7 z8 ct Qz rP PB L6;go_wp2;go_roundw;case rel=>exact⟨j+1,by omega,by go_num,c.o⟩
         case measure=>simp [intOf];omega
       .have g1:(A == 1)=false:=(by rw [fy];exact Rc);have bj:=(pP.later bz).second (by omega) A l f k m u n C E D x H z d U uj;clear pP I uj Um K bz eJ pY Bz;go_wp2_with fail;refine bJ bj λG nc=>?_;have c:=yh nc;clear bj nc J L M N P Q R S T X Y Z z3 z4 z5 z6 z7 z8 ct Qz rP PB L6;go_wp2;go_roundw;case rel=>exact⟨j+1,by omega,by go_num,c.o⟩
        case measure=>simp [intOf];omega
      .have an6:(t.tmod 2 != 0)=false:=(by simpa using agb);clear agb;by_cases Rc:A=1
       .subst Rc;by_cases wI:x=0
        .subst wI;have bj:=(pP.later bz).first (by omega) 1 l f k m u n C E D 0 H z d U uj;clear pP I uj Um K bz eJ pY Bz;go_wp2_with fail;refine bJ bj λG nc=>?_;have c:=yh nc;clear bj nc J L M N P Q R S T X Y Z z3 z4 z5 z6 z7 z8 ct Qz rP PB L6;go_wp2;go_roundw;case rel=>exact⟨j+1,by omega,by go_num,c.o⟩
         case measure=>simp [intOf];omega
        .have g2:(x != 0)=true:=(by rw [gg];exact wI);clear wI;obtain⟨d1,my⟩:=(pP.later bz).ref;have bj:=(pP.later (eJ s)).first (by omega) 1 l f k m u n C E D (s:Int) H z d U (I.kZ ((eJ s).mono XC));obtain⟨u0,u1,u2,u3,u4,u5,u6,u7,u8⟩:=gU (Bz s);have xO:=ae pY 6;clear pP I uj Um K bz eJ pY Bz;go_wp2_with fail;refine bJ my λG ec=>?_;have eH:=ec.symm;clear ec my;subst eH;go_wp2_with fail;refine bJ bj λG nc=>?_;have c:=yh nc;clear bj nc u0 u1 u2 u3 u4 u5 u6 u7 u8 xO d1 J L M N P Q R S T X Y Z z3 z4 z5 z6 z7 z8 ct Qz rP PB L6;go_wp2;go_roundw;case rel=>exact⟨j+1,by omega,by go_num,c.o⟩
         case measure=>simp [intOf];omega
       .have g1:(A == 1)=false:=(by rw [fy];exact Rc);have bj:=(pP.later bz).first (by omega) A l f k m u n C E D x H z d U uj;clear pP I uj Um K bz eJ pY Bz;go_wp2_with fail;refine bJ bj λG nc=>?_;have c:=yh nc;clear bj nc J L M N P Q R S T X Y Z z3 z4 z5 z6 z7 z8 ct Qz rP PB L6;go_wp2;go_roundw;case rel=>exact⟨j+1,by omega,by go_num,c.o⟩
        case measure=>simp [intOf];omega
    .have wK:¬(j:Int)<(sn:Int):=(by omega);have h3:=pP.looks (by omega);clear pP;go_wp2_with fail;refine fQ h3 λG _ nc=>?_;have h4:=(nc trivial).swap.looks (by omega);clear h3 nc;go_wp2_with fail;refine fQ h4 λw4 Js _=>?_;have HF:=yh Js;clear h4 Js;go_wp2;go_ret;exact⟨rfl,HF.o⟩
end Go.Proofs.YtcpdggdfihjhoaaGreat
