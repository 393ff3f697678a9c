import Derived.Test.YtenlkgicpllbhaaGreatV01
import Derived.Test.YtenlkgicpllbhaaGreatV09
set_option maxRecDepth 20000
set_option maxHeartbeats 8000000
set_option linter.all false
namespace Go.Proofs.YtenlkgicpllbhaaGreat
open Go.Proofs.Tryz
open Go.RowKit Go.Maps
variable {y:Array Value} {S:DS} {L:LG} {ps:List (Nat×List Int)} {d:List Int} {ls:List LG} {vs xs:List Value} {M N c hm i j k kl n p q s u x:Nat} {F Z:Nat->Prop} {G G':SG} {T:TG} {α:Type} {e f:TypeId} {nv tv v:Value} {w:World}
theorem OQ (h:B.ax w F p s S c) (cZ:S.fC) (aT:S.puts.length+6000<=4000000000000) (hf:S.fuse≠0) (qv:lT (S.now 0) s):
  Calls prog 18 #[pQ p] w λe w'=>SK w F p s c S e w':=by
 obtain⟨w1,bN⟩:=bQ ((w.alloc (.cells #[.pointer none] 53)).alloc (.cells #[.int .i64 0] 49));have bK:bW w w1:=by rw [bN];exact bY w _ _
 have rY:w1.heap.size=w.heap.size+2:=by rw [bN];simp
 have o8:w1.heap[w.heap.size]? =some (.cells #[.pointer none] 53 (0,0)):=by rw [bN];exact heap_alloc2_old _ _ _
 have fU:w1.heap[w.heap.size+1]? =some (.cells #[.int .i64 0] 49 (0,0)):=by rw [bN];exact heap_alloc2_new _ _ _
 have bm:=h.lt;have hly:=uo (h.later bK) cZ (by omega);have uv:=kh qv;clear h
 go_enter_defers func18,ntmps18
 go_wp2_with fail;rw [<-bN];clear bN;refine hly.mono ?_;rintro e w2 ⟨y,x,rfl,ox,cC,aX⟩;have ec:=aX.size;have rl:x=0/\y=cz (S.now 0):=by
  rcases ox with ⟨h1,_⟩|⟨_,_,h2,h3⟩|⟨_,h1,_⟩
  .exact absurd h1 hf
  .exact⟨h3,h2⟩
  .exact absurd qv h1
 obtain⟨rfl,XN⟩:=rl;rw [<-XN] at uv;have H:=yh XN;have Wo:=(aX.block w.heap.size (by omega) (λd=>by have:=bm _ d;omega)).trans o8;have Ia:=(aX.block (w.heap.size+1) (by omega) (λd=>by have:=bm _ d;omega)).trans fU;have HK:Yh (B.ax w2 F p s S (c+1)/\aa F w w2):=⟨cC,(aa.ah F bK).trans aX (λ_ h=> .inl h)⟩;have d0:=aL Ia;have e0:=ae Ia 0;have fy:w.heap.size+1<w2.heap.size:=by omega
 obtain⟨q,J,P,M,o5,o6⟩:=aeC bm fy Wo Ia HK.o.1 HK.o.2 0 (.cells #[.int .i64 (y.log:Int), .int .i64 (y.home:Int), .int .i64 (y.blocks:Int), .int .i64 (y.nodes:Int), .int .i64 (y.data:Int)] 86);clear hly ox cC aX XN
 dsimp only [Pr]
 go_upto_region 3 with fail
 generalize (w2.setCell ⟨w.heap.size+1,0,none⟩ (.int .i64 0)).alloc (.cells #[.int .i64 (y.log:Int), .int .i64 (y.home:Int), .int .i64 (y.blocks:Int), .int .i64 (y.nodes:Int), .int .i64 (y.data:Int)] 86)=w3 at*;have HW:=yh (aF q (aF J (aF P (aF M o5))));have I:=aj J (j:=0) (u:=iV 0) rfl;have l0:=aL P;have l7:=B.SJ M cZ 1 (y.log:Int) (by omega);clear q J P M o5 d0 e0 Wo Ia HK o8 fU bK;go_wp2_with fail;refine l7.mono ?_;rintro e w4 ⟨uw,K,dV⟩;clear l7 I l0;have vS:=dV.size;have aq:=(dV.block w.heap.size (by omega) (λd=>by have:=bm _ d;omega)).trans HW.o.1;have aW:=(dV.block (w.heap.size+1) (by omega) (λd=>by have:=bm _ d;omega)).trans HW.o.2.1;have bz:=(dV.block w2.heap.size (by omega) (λd=>by have:=bm _ d;omega)).trans HW.o.2.2.1;have BN:=HW.o.2.2.2.2.trans dV (λ_ h=> .inl h);have vi:=aal S s y.log;unfold J1 at uw;by_cases Z:(bu S s 1 (y.log:Int)).1=0
 .rw [aA (λh=>h Z)] at uw;obtain⟨l,v,rs,hd,rfl,jT,Tj⟩:=uw;obtain⟨q,J,P,M⟩:=aeD 0 (λk d=> .inl (bm k d)) aq aW K;have I:=aj aW (j:=0) (u:=iV 0) rfl;have Y:=ae aW 0;have arL:=Tj.p.lt;have OR:=(M.block w2.heap.size (by omega) (by omega)).trans bz;have HT:=yh Tj;have XF:=yh Z;clear dV aq aW bz K HW Tj Z
  go_upto_region 6 with fail
  generalize I3:w4.setCell ⟨w.heap.size+1,0,none⟩ (.int .i64 0)=w5 at*;have qE:w5.heap.size=w4.heap.size:=by rw [<-I3,size_setCell]
  clear I Y I3;obtain⟨c1,f1,I,l0,l1,l2,l3,l4⟩:=rV (aL q) (ae q 0) (aj J (j:=0) (u:=iV 0) rfl) (aL OR) (bD OR) (bH OR) (fI OR) (gz OR);have arM:w.heap.size<w5.heap.size:=by omega
  have HX:=yh (aF q (aF J (aF P M)));have HZ5:=yh qE;have hbN:=bY w5 (.map #[] 0) (.cells (Pg p l w5.heap.size y false) 95);have c1N:=aj ((hbN.block _ (aw q)).trans q) (j:=0) (u:= .pointer none) rfl;have f1N:=ae ((hbN.block _ (aw q)).trans q) 0;clear q J P OR qE hbN;have BV:= @run_makeMap prog
  go_upto_region 9 with fail
  obtain⟨D,Mt⟩:=bQ (((w5.setCell ⟨w.heap.size,0,none⟩ (.pointer (some ⟨w5.heap.size+1,0,none⟩))).alloc (.map #[] 0)).alloc (.cells (Pg p l w5.heap.size y false) 95));rw [<-Mt];obtain⟨r1,r2,r3,r4,r5,r6,r7⟩:=aeE (l:=l) (y:=y) bm HX.o.1 HX.o.2.1 HX.o.2.2.1 Mt;have G8:=(HT.o.au HX.o.2.2.2 (λk e=>by omega) (by omega)).au r6 (λk e=>by omega) (by omega);have Fl:jH S 1 y.log rs hd:=⟨G8.t,G8.x⟩;obtain⟨Wr,Ez,Ii,Ij⟩:=lV (f:=1) XF.o;obtain⟨iQ,mg,xA,ZB⟩:=Fl.small cZ (by omega);have X5:(bu S s 1 (y.log:Int)).2.puts= []:=by
   have:=XF.o;rw [show bu S s 1 (y.log:Int)=S.take.fl s from Ij] at this⊢;exact jf this
  have aaB:(bu S s 1 (y.log:Int)).2.fC:=by
   rw [show bu S s 1 (y.log:Int)=S.take.fl s from Ij];exact cZ.take.fl s
  obtain⟨S1,aaC⟩:∃S1,S1=(bu S s 1 (y.log:Int)).2:=⟨_,rfl⟩;rw [<-aaC] at r5 X5 aaB;have hkq:¬F (w5.heap.size+1):=λd=>by have:=bm _ d;omega
  have hkm:¬F w5.heap.size:=λd=>by have:=bm _ d;omega
  have hre:=SD r5 r3 r4 hkq hkm uv.1 G8.r.aeF mg (by omega) (by rw [X5];simp);have a:=yh (aF r1 (aF r2 (aF r3 (aF r5 (aF G8 (aF Fl (aF X5 (aF aaB (aF aaC (aF mg (aF r6 (aF Ez Ii))))))))))));have cq1:=aL r1;clear r1 r2 r3 r4 r5 G8 Fl X5 aaB aaC iQ mg xA ZB Wr Ez Ii Ij Mt HT HX c1 I f1 c1N f1N l0 l1 l2 l3 l4 BV;have Mf:=r7;clear r7 r6;go_wp2_with fail;refine hre.mono ?_;rintro e i Hw;clear hre cq1;have Ax:=(BN.trans M (λk e=> .inr (by omega))).trans a.o.2.2.2.2.2.2.2.2.2.2.1 (λk e=> .inr (by omega));have qE:=HZ5.o;clear BN M;rcases Hw with ⟨hn,rfl,nF,gy⟩|⟨ov,uF,rfl,nF,gy,WB⟩
  .have Z2:=gy.size;have m:=(gy.block w.heap.size (by omega) (by omega)).trans a.o.1;have n:=(gy.block (w.heap.size+1) (by omega) (by omega)).trans a.o.2.1;obtain⟨A,C,p3,g⟩:=oset (w:=w) (v:= .pointer none) (x:=6) (λk d=> .inl (bm k d)) m n nF;have HG:=yh (aF m n);have O:Yh (jP S s 6 S1):=by
    unfold jP;rw [<-H.o];exact .inr ⟨qv,hf, .inr ⟨XF.o,rs,hd,a.o.2.2.2.2.2.1, .inl ⟨hn,rfl,a.o.2.2.2.2.2.2.2.2.1⟩⟩⟩
   have b:=yh (aF A (aF C (aF p3 ((Ax.trans gy (λk e=> .inr (by omega))).trans g (λk e=> .inr (by omega)):aa F w _))));clear A C p3 g nF gy m n hn Ax;go_wp2;refine leaves_cons (f:=53) (args:= #[pQ w.heap.size, .pointer (some ⟨w.heap.size+1,0,none⟩)]) (by simp) (by simp [go_sem]) ?_;refine(Es w.heap.size (w.heap.size+1) _ _ _ HG.o.1 HG.o.2 (by omega)).mono ?_;rintro e u' Bh ⟨rfl,rfl,ae5⟩;rw [<-ae5] at b;have Q:=aj b.o.1 (j:=0) (u:= .pointer none) rfl;have U:=aj b.o.2.1 (j:=0) (u:=iV 6) rfl;clear ae5;simp [Leaves,settle,results,results18,go_sem,Q,U];exact⟨6,S1,_,by have:=H.o;rw [<-this];omega,O.o,b.o.2.2.2, .inl ⟨by decide,rfl,b.o.2.2.1.more⟩⟩
  .obtain⟨R,E⟩:=bQ (ee S1 s y ov rs);rw [<-E] at nF WB;rw [<-E];have Z2:=gy.size;have m:=(gy.block w.heap.size (by omega) (λe=>by rcases e with e|e;omega;have:=bm _ e;omega)).trans a.o.1;have n:=(gy.block (w.heap.size+1) (by omega) (λe=>by rcases e with e|e;omega;have:=bm _ e;omega)).trans a.o.2.1;have c1:=aL m;have f1:=ae m 0;have I:=aj n (j:=0) (u:=iV 0) rfl;have Y:=ae n 0;have WC:∀k,more F D i k->k<w.heap.size\/w.heap.size+2<=k:=λk h=>by
    rcases h with h|h
    .exact .inl (bm k h)
    .exact .inr (by omega)
   have BO:=Ax.trans gy (λk e=>by rcases e with e|e;exact .inr (by omega);exact .inl e);by_cases N:R.1=0
   .have dz:(R.1 == 0)=true:=(by rw [N];rfl);have dz2:(R.1 != 0)=false:=(by simp [N]);obtain⟨L,hL⟩:=bQ (eZ S 1 y.log hd);have ae6:cQ D l p L:=(by rw [hL];exact a.o.2.2.2.2.1.p);have xn:L.Ok s:=(by rw [hL];exact xQ a.o.2.2.2.2.2.1 cZ a.o.2.2.2.2.2.2.2.2.2.2.2.1 a.o.2.2.2.2.2.2.2.2.2.2.2.2 uv.2.1 uv.2.2.1 uv.2.2.2.1);have xw:l≠w5.heap.size:=(by omega);have hlF:¬F l:=λe=>by have:=bm _ e;omega
    have akr:¬more F D i l:=λe=>by
     rcases e with e|e
     .exact hlF e
     .omega
    have ae7:=ae6.au gy (λe=>by rcases e with e|e;exact xw e;exact hlF e);have wY:=a.o.2.2.1.au gy (λe=>by rcases e with e|e;omega;exact hkq e);have hRb:R.2.fC:=(by rw [E];exact C4 a.o.2.2.2.2.2.2.2.1 (qt uF (λx hx=>by cases hx) (λr hr=>(a.o.2.2.2.2.2.2.2.2.2.1 r hr).1)));have hRp:R.2.puts.length<=0:=by
     have h1:=KU (S:=S1) (s:=s) (y:=y) (ov:=ov) (rs:=rs) (by rw [<-E];exact N);rw [<-E,a.o.2.2.2.2.2.2.1] at h1;exact h1
    have aaD:=B.OB nF ae7 xn akr hRb (by omega);obtain⟨T,hT⟩:=bQ (L.start R.2 s);rw [<-hT] at aaD;have O:Yh (jP S s T.1 T.2.1):=by
     unfold jP;rw [<-H.o];exact .inr ⟨qv,hf, .inr ⟨XF.o,rs,hd,a.o.2.2.2.2.2.1, .inr ⟨ov,uF, .inr ⟨by rw [<-a.o.2.2.2.2.2.2.2.2.1,<-E];exact N,by rw [<-a.o.2.2.2.2.2.2.2.2.1,<-E,<-hL,<-hT],by rw [<-a.o.2.2.2.2.2.2.2.2.1,<-E,<-hL,<-hT]⟩⟩⟩⟩
    have HSL:Yh (sR S s T.2.2):=by
     unfold sR;rw [<-H.o];exact⟨rs,hd,ov,a.o.2.2.2.2.2.1,uF,by rw [<-a.o.2.2.2.2.2.2.2.2.1,<-E,<-hL,<-hT]⟩
    have rN:T.1=0->T.2.2.Ok s/\T.2.2.begun=true:=(by rw [hT];exact sQ xn);have X:=yh (aF m (aF n (aF wY (aF (WB N) (aF BO rN)))));clear nF gy m n Ax BO E WB N hL ae6 xn ae7 wY hRb hRp hT rN uF c1 I f1 Y qE;generalize R.1=z at*;go_wp2_with fail;refine oX aaD λG nU aaE jv=>?_;clear aaD;have qE:=HZ5.o;have VY:=jv.size;have m:=(jv.block w.heap.size (by omega) (λe=>by rcases e with e|e;rcases WC _ e with e|e <;> omega;omega)).trans X.o.1;have n:=(jv.block (w.heap.size+1) (by omega) (λe=>by rcases e with e|e;rcases WC _ e with e|e <;> omega;omega)).trans X.o.2.1;have c1:=aj m (j:=0) (u:= .pointer (some ⟨w5.heap.size+1,0,none⟩)) rfl;have f1:=ae m 0;have I:=aj n (j:=0) (u:=iV 0) rfl;have Y:=ae n 0;have Yb:∀k,more (more F D i) i G k->k<w.heap.size\/w.heap.size+2<=k:=λk h=>by
     rcases h with h|h
     .exact WC k h
     .exact .inr (by omega)
    have WD:=X.o.2.2.2.2.1.trans jv (λk e=>by
     rcases e with (e|e)|e
     .exact .inl e
     .exact .inr (by omega)
     .exact .inr (by omega))
    have VI:∀(w9:World),G.heap.size<=w9.heap.size->∀k,more (more F D i) i G k->more F w w9 k:=λw9 hz k h=>by
     rcases h with (h|h)|h
     .exact .inl h
     .exact .inr (by omega)
     .exact .inr (by omega)
    by_cases W:T.1=0
    .have dt:(T.1 == 0)=true:=(by rw [W];rfl);have dt2:(T.1 != 0)=false:=(by simp [W]);obtain⟨A,C,p3,g⟩:=oset (w:=w) (v:= .pointer (some ⟨w5.heap.size+1,0,none⟩)) (x:=0) Yb m n nU;have hq8:¬more (more F D i) i G (w5.heap.size+1):=λe=>by
      rcases e with (e|e)|e
      .exact hkq e
      .omega
      .omega
     have Xi:¬more (more F D i) i G w5.heap.size:=λe=>by
      rcases e with (e|e)|e
      .exact hkm e
      .omega
      .omega
     have CW:¬more (more F D i) i G l:=λe=>by
      rcases e with (e|e)|e
      .exact hlF e
      .omega
      .omega
     have Wc:=(X.o.2.2.1.au jv (λe=>by rcases e with e|e;exact hq8 (.inl e);omega)).au g (by omega);have ae8:=(X.o.2.2.2.1.au jv (λe=>by rcases e with e|e;exact Xi (.inl e);omega)).au g (by omega);have ae9:=aaE.au g (by omega);have FQ:=X.o.2.2.2.2.2 W;have hSt:ig ((G.setCell ⟨w.heap.size,0,none⟩ (.pointer (some ⟨w5.heap.size+1,0,none⟩))).setCell ⟨w.heap.size+1,0,none⟩ (.int .i64 0)) (more (more F D i) i G) p s (c+1+B.oRd S s 1 (y.log:Int)+2) (w5.heap.size+1) l w5.heap.size T.2.1 ⟨y,T.2.2, [],false⟩:=
        ⟨p3,Wc,ae9,ae8,hq8,CW,Xi,by omega,by omega,xw,FQ.1,FQ.2,uv.1,(λx hx=>by cases hx)⟩
     obtain⟨b,HT0⟩:=bL (aF A (aF C (aF hSt (aF (WD.trans g (λk e=> .inr (by omega)):aa F w _) (VI _ g.size))))) W;have Tk:=yh (aF (by omega:w.heap.size<=w5.heap.size+1) (aF (by omega:w.heap.size<=l) (by omega:w.heap.size<=w5.heap.size)));clear A C p3 g nU aaE jv m n WD VI Wc ae8 ae9 FQ hSt X W qE;go_wp2;generalize (G.setCell ⟨w.heap.size,0,none⟩ (.pointer (some ⟨w5.heap.size+1,0,none⟩))).setCell ⟨w.heap.size+1,0,none⟩ (.int .i64 0)=w9 at*;have Q:=aj b.o.1 (j:=0) (u:= .pointer (some ⟨w5.heap.size+1,0,none⟩)) rfl;have U:=aj b.o.2.1 (j:=0) (u:=iV 0) rfl;refine leaves_cons (f:=53) (args:= #[pQ w.heap.size, .pointer (some ⟨w.heap.size+1,0,none⟩)]) (by simp) (by simp [go_sem]) ?_;refine(kL _ _ _).mono ?_;rintro e u' Bh ⟨rfl,rfl,rfl⟩;simp [Leaves,settle,results,results18,go_sem,Q,U];have bt:=b.o.2.2.1;rw [H.o] at bt;have ho:=O.o;rw [HT0.o] at ho;exact⟨0,T.2.1,_,by have:=H.o;rw [<-this];omega,ho,b.o.2.2.2.1, .inr ⟨rfl,w5.heap.size+1,l,w5.heap.size,T.2.2,_,HSL.o,rfl,b.o.2.2.2.2,Tk.o.1,Tk.o.2.1,Tk.o.2.2,bt⟩⟩
    .have dt:(T.1 == 0)=false:=(by simpa using W);have dt2:(T.1 != 0)=true:=(by simp [W]);obtain⟨A,C,p3,g⟩:=oset (w:=w) (v:= .pointer none) (x:=T.1) Yb m n nU;have afa:∀k,more F w ((G.setCell ⟨w.heap.size,0,none⟩ (.pointer none)).setCell ⟨w.heap.size+1,0,none⟩ (.int .i64 T.1)) k->k<((G.setCell ⟨w.heap.size,0,none⟩ (.pointer none)).setCell ⟨w.heap.size+1,0,none⟩ (.int .i64 T.1)).heap.size:=λk h=>by
      have RA:=g.size;rcases h with h|h
      .have:=bm k h;omega
      .omega
     obtain⟨b,HT0⟩:=bL (aF A (aF C (aF (p3.mono (VI _ g.size) afa) (WD.trans g (λk e=> .inr (by omega)):aa F w _)))) W;clear A C p3 g nU aaE jv m n WD VI afa X W;generalize T.1=t at*;go_wp2;generalize (G.setCell ⟨w.heap.size,0,none⟩ (.pointer none)).setCell ⟨w.heap.size+1,0,none⟩ (.int .i64 t)=w9 at*;have Q:=aj b.o.1 (j:=0) (u:= .pointer none) rfl;have U:=aj b.o.2.1 (j:=0) (u:=iV t) rfl;refine leaves_cons (f:=53) (args:= #[pQ w.heap.size, .pointer (some ⟨w.heap.size+1,0,none⟩)]) (by simp) (by simp [go_sem]) ?_;refine(kL _ _ _).mono ?_;rintro e u' Bh ⟨rfl,rfl,rfl⟩;simp [Leaves,settle,results,results18,go_sem,Q,U];exact⟨t,T.2.1,_,by have:=H.o;rw [<-this];omega,O.o,b.o.2.2.2, .inl ⟨HT0.o,rfl,b.o.2.2.1⟩⟩
   .have dz:(R.1 == 0)=false:=(by simpa using N);have dz2:(R.1 != 0)=true:=(by simp [N]);obtain⟨A,C,p3,g⟩:=oset (w:=w) (v:= .pointer none) (x:=R.1) WC m n nF;have O:Yh (jP S s R.1 R.2):=by
     unfold jP;rw [<-H.o];exact .inr ⟨qv,hf, .inr ⟨XF.o,rs,hd,a.o.2.2.2.2.2.1, .inr ⟨ov,uF, .inl ⟨by rw [E,a.o.2.2.2.2.2.2.2.2.1],N,by rw [E,a.o.2.2.2.2.2.2.2.2.1]⟩⟩⟩⟩
    have BZ:B.ax ((i.setCell ⟨w.heap.size,0,none⟩ (.pointer none)).setCell ⟨w.heap.size+1,0,none⟩ (.int .i64 R.1)) (more F w ((i.setCell ⟨w.heap.size,0,none⟩ (.pointer none)).setCell ⟨w.heap.size+1,0,none⟩ (.int .i64 R.1))) p s R.2 (c+1+B.oRd S s 1 (y.log:Int)):=by
     have RA:=g.size;refine p3.mono (λk h=>?_) (λk h=>?_)
     .rcases h with h|h
      .exact .inl h
      .exact .inr (by omega)
     .rcases h with h|h
      .have:=bm k h;omega
      .omega
    obtain⟨b,Mq⟩:=bL (aF A (aF C (aF BZ (BO.trans g (λk e=> .inr (by omega)):aa F w _)))) N;clear A C p3 g nF gy m n Ax BO BZ E WB N;generalize R.1=z at*;go_wp2;generalize (i.setCell ⟨w.heap.size,0,none⟩ (.pointer none)).setCell ⟨w.heap.size+1,0,none⟩ (.int .i64 z)=G at*;have Q:=aj b.o.1 (j:=0) (u:= .pointer none) rfl;have U:=aj b.o.2.1 (j:=0) (u:=iV z) rfl;refine leaves_cons (f:=53) (args:= #[pQ w.heap.size, .pointer (some ⟨w.heap.size+1,0,none⟩)]) (by simp) (by simp [go_sem]) ?_;refine(kL _ _ _).mono ?_;rintro e u' Bh ⟨rfl,rfl,rfl⟩;simp [Leaves,settle,results,results18,go_sem,Q,U];exact⟨z,R.2,_,by have:=H.o;rw [<-this];omega,O.o,b.o.2.2.2, .inl ⟨Mq.o,rfl,b.o.2.2.1⟩⟩
 .rw [aE Z] at uw;subst uw;have O:Yh (jP S s (bu S s 1 (y.log:Int)).1 (bu S s 1 (y.log:Int)).2):= .inr ⟨qv,hf, .inl ⟨by rw [<-H.o],Z,by rw [<-H.o]⟩⟩;obtain⟨S',hS'⟩:∃S',S'=(bu S s 1 (y.log:Int)).2:=⟨_,rfl⟩;rw [<-hS'] at O K;obtain⟨x,hx⟩:∃x,x=(bu S s 1 (y.log:Int)).1:=⟨_,rfl⟩;rw [<-hx] at O Z;rw [<-hx];have dx2:(x != 0)=true:=by simp [Z]
  obtain⟨q,J,P,M⟩:=aeD x (λk d=> .inl (bm k d)) aq aW K;have I:=aj aW (j:=0) (u:=iV 0) rfl;have Y:=ae aW 0;clear hx hS' dV aq aW bz K HW
  go_upto_region 6 with fail
  generalize w4.setCell ⟨w.heap.size+1,0,none⟩ (.int .i64 x)=w5 at*;clear I Y;have c1:=aL q;have f1:=ae q 0;have I:=aj J (j:=0) (u:=iV x) rfl;have Y:=ae J 0;obtain⟨A,C,p3,g⟩:=oset (w:=w) (v:= .pointer none) (x:=x) (λk d=> .inl (bm k d)) q J P;clear q J P
  go_upto_region 7 with fail
  go_region
  have oU:=BN.trans M (λk e=> .inr (by omega));generalize (w5.setCell ⟨w.heap.size,0,none⟩ (.pointer none)).setCell ⟨w.heap.size+1,0,none⟩ (.int .i64 x)=D at*;have Up:bW D D.drew:=ai (bi _ _);have HF:Yh (B.ax D.drew F p s S' (c+1+B.oRd S s 1 (y.log:Int))/\aa F w D.drew):=⟨p3.later Up,(oU.trans g (λk e=> .inr (by omega))).trans (aa.ah (λ_=>False) Up) (λ_ h=>h.elim)⟩;have Q:=aj ((Up.block _ (aw A)).trans A) (j:=0) (u:= .pointer none) rfl;have U:=aj ((Up.block _ (aw C)).trans C) (j:=0) (u:=iV x) rfl;clear A C p3 g Up c1 I f1 Y M oU BN;generalize D.drew=i at*;go_wp2;refine leaves_cons (f:=53) (args:= #[pQ w.heap.size, .pointer (some ⟨w.heap.size+1,0,none⟩)]) (by simp) (by simp [go_sem]) ?_;refine(kL _ _ _).mono ?_;rintro e u' Bh ⟨rfl,rfl,rfl⟩;simp [Leaves,settle,results,results18,go_sem,Q,U];exact⟨x,S',_,by have:=H.o;rw [<-this];omega,O.o,HF.o.2, .inl ⟨Z,rfl,HF.o.1.more⟩⟩
section
structure PI where
 q:Nat
 l:Nat
 m:Nat
 G:SG
structure PT where
 i:Nat
 t:Nat
 n:Nat
 T:TG
structure PW (w:World) (F P:Nat->Prop) (p s:Nat) (S:DS) (c:Nat) (ss:List PI) (ts:List PT):Prop where
 d:B.ax w F p s S c
 fD:∀g,P g->¬F g
 lt:∀g,P g->g<w.heap.size
 st:∀I∈ss,mZ w I.q p I.l I.m I.G.y I.G.busy/\cQ w I.l p I.G.L/\Ch w I.m I.G.ov/\(P I.q/\P I.l/\P I.m)/\I.G.L.Ok s/\I.G.L.begun=true/\I.G.y.home+I.G.y.blocks<=s/\∀x∈I.G.ov,x.1<I.G.y.blocks
 tx:∀J∈ts,∃I,ss[J.i]? =some I/\w.heap[J.t]? =some (.cells (zK I.q J.n J.T) 98 (0,0))/\Ch w J.n J.T.puts/\(P J.t/\P J.n)/\∀x∈J.T.puts,x.1<I.G.y.blocks
 nq:(ss.map (·.q)).Nodup
 nl:(ss.map (·.l)).Nodup
 nm:(ss.map (·.m) ++ ts.map (·.n)).Nodup
 nt:(ts.map (·.t)).Nodup
theorem cU {w:World} {a b:Nat} {x:Array Value} {u v:Nat×Nat} (c:w.heap[a]? =some (.cells x e u)) (d:w.heap[b]? =some (.cells y f v)) (dG:e≠f):a≠b:=λh=>by
 rw [h,d] at c;simp at c;exact dG c.2.1.symm
theorem k9 {w:World} {m b:Nat} {ms:CM} {v:Nat×Nat} (a:Ch w m ms) (c:w.heap[b]? =some (.cells y f v)):m≠b:=λh=>a.qh (by rw [h];exact c)
theorem iM {f:α->Nat} {l:List α} (h:(l.map f).Nodup) {i j:Nat} {a b:α} (n:l[i]? =some a) (o:l[j]? =some b) (dG:i≠j):f a≠f b:=λe=>by
 obtain⟨k,d⟩:=mG.1 n;obtain⟨m,g⟩:=mG.1 o;rw [List.nodup_iff_pairwise_ne,List.pairwise_iff_getElem] at h;rcases Nat.lt_or_gt_of_ne dG with c|c
 .have:=h i j (by simpa using k) (by simpa using m) c;simp only [List.getElem_map,d,g] at this;exact this e
 .have:=h j i (by simpa using m) (by simpa using k) c;simp only [List.getElem_map,d,g] at this;exact this e.symm
section
variable {w w':World} {F F' P:Nat->Prop} {p s c c' i j:Nat} {S S':DS} {ss:List PI} {ts:List PT} {I:PI} {J:PT} {G':SG} {T':TG}
theorem PW.EF (h:PW w F P p s S c ss ts) (o:ss[i]? =some I):ig w F p s c I.q I.l I.m S I.G:=by
 obtain⟨a,b,f,⟨r,t,p3⟩,g,j,k,n⟩:=h.st I (gu o);exact⟨h.d,a,b,f,h.fD _ r,h.fD _ t,h.fD _ p3,cU a b (by decide),λe=>k9 f a e.symm,λe=>k9 f b e.symm,g,j,k,n⟩
theorem PW.K6 (h:PW w F P p s S c ss ts) (o:ts[j]? =some J) (d:ss[J.i]? =some I):mx w F I.q I.l I.m J.t J.n I.G J.T:=by
 obtain⟨I',nj,a,b,⟨v,x⟩,u⟩:=h.tx J (gu o);obtain rfl:I'=I:=Option.some.inj (nj.symm.trans d);obtain⟨g,k,r,_⟩:=h.st I' (gu d);have f:J.n≠I'.m:=λe=>by
  have:=(List.nodup_append.1 h.nm).2.2 I'.m (List.mem_map_of_mem (gu d)) J.n (List.mem_map_of_mem (gu o));exact this e.symm
 exact⟨a,b,h.fD _ v,h.fD _ x,cU a g (by decide),cU a k (by decide),λe=>k9 r a e.symm,λe=>k9 b a e.symm,k9 b g,k9 b k,f,u⟩
theorem PW.at (h:PW w F P p s S c ss ts) (b:ts[j]? =some J):∃I,ss[J.i]? =some I:=by
 obtain⟨I,a,_⟩:=h.tx J (gu b);exact⟨I,a⟩
theorem PW.au (h:PW w F P p s S c ss ts) (a:aa Z w w') (m:∀g,F g->¬Z g) (b:∀g,P g->¬Z g):PW w' F P p s S c ss ts:=by
 refine⟨h.d.au a m,h.fD,λg q=>iP (h.lt g q) a.size,λI n=>?_,λJ o=>?_,h.nq,h.nl,h.nm,h.nt⟩
 .obtain⟨i,j,k,⟨e,f,p3⟩,l⟩:=h.st I n;exact⟨i.au a (b _ e),j.au a (b _ f),k.au a (b _ p3),⟨e,f,p3⟩,l⟩
 .obtain⟨I,r,i,j,⟨e,f⟩,k⟩:=h.tx J o;exact⟨I,r,(a.block _ (aw i) (b _ e)).trans i,j.au a (b _ f),⟨e,f⟩,k⟩
theorem PW.later (h:PW w F P p s S c ss ts) (a:bW w w'):PW w' F P p s S c ss ts:=h.au (aa.ah (λ_=>False) a) (λ_ _ h=>h) (λ_ _ h=>h)
theorem PW.on (h:PW w F P p s S c ss ts) (o:ss[i]? =some I) (A:ts[j]? =some J) (Pw:J.i=i) (Y:G'.y=I.G.y) (X:∀g,F' g->more F w w' g) (bt:ig w' F' p s c' I.q I.l I.m S' G') (nK:w'.heap[J.t]? =some (.cells (zK I.q J.n T') 98 (0,0))) (nc:Ch w' J.n T'.puts) (oZ:∀x∈T'.puts,x.1<G'.y.blocks) (D:aa (λg=>F g\/g=I.q\/g=I.l\/g=I.m\/g=J.t\/g=J.n) w w'):
  PW w' F' P p s S' c' (ss.set i {I with G:=G'}) (ts.set j {J with T:=T'}):=by
 have uG:=(mG.1 o).1;have C:=(mG.1 A).1;obtain⟨WE,WF,u,⟨pq,Z,pm⟩,_⟩:=h.st I (gu o);obtain⟨I0,rt,r,v,⟨pt,pn⟩,_⟩:=h.tx J (gu A);have wP:=List.nodup_append.1 h.nm;have BQ:∀g,P g->¬F' g:=λg L a=>by
  rcases X g a with a|a
  .exact h.fD g L a
  .have:=h.lt g L;omega
 have aku:(ss.set i {I with G:=G'}).map (·.q)=ss.map (·.q):=by
  rw [List.map_set];apply List.ext_getElem?;intro n;by_cases e:n=i
  .subst e;rw [List.getElem?_set_self (by simpa using uG),Bd,o];rfl
  .rw [List.getElem?_set_ne (λh=>e h.symm)]
 have akv:(ss.set i {I with G:=G'}).map (·.l)=ss.map (·.l):=by
  rw [List.map_set];apply List.ext_getElem?;intro n;by_cases e:n=i
  .subst e;rw [List.getElem?_set_self (by simpa using uG),Bd,o];rfl
  .rw [List.getElem?_set_ne (λh=>e h.symm)]
 have akw:(ss.set i {I with G:=G'}).map (·.m)=ss.map (·.m):=by
  rw [List.map_set];apply List.ext_getElem?;intro n;by_cases e:n=i
  .subst e;rw [List.getElem?_set_self (by simpa using uG),Bd,o];rfl
  .rw [List.getElem?_set_ne (λh=>e h.symm)]
 have akx:(ts.set j {J with T:=T'}).map (·.t)=ts.map (·.t):=by
  rw [List.map_set];apply List.ext_getElem?;intro n;by_cases e:n=j
  .subst e;rw [List.getElem?_set_self (by simpa using C),Bd,A];rfl
  .rw [List.getElem?_set_ne (λh=>e h.symm)]
 have aky:(ts.set j {J with T:=T'}).map (·.n)=ts.map (·.n):=by
  rw [List.map_set];apply List.ext_getElem?;intro n;by_cases e:n=j
  .subst e;rw [List.getElem?_set_self (by simpa using C),Bd,A];rfl
  .rw [List.getElem?_set_ne (λh=>e h.symm)]
 refine⟨bt.d,BQ,λg L=>iP (h.lt g L) D.size,λK O=>?_,λK O=>?_,by rw [aku];exact h.nq,by rw [akv];exact h.nl,by rw [akw,aky];exact h.nm,by rw [akx];exact h.nt⟩
 .obtain⟨n,b⟩:=List.mem_iff_getElem?.1 O;by_cases e:n=i
  .subst e;rw [List.getElem?_set_self uG] at b;cases b;exact⟨bt.st,bt.lp,bt.ch,⟨pq,Z,pm⟩,bt.lk,bt.bg,bt.hs,bt.kb⟩
  .rw [List.getElem?_set_ne (λh=>e h.symm)] at b;obtain⟨f,k,z,⟨E,H,p3⟩,W⟩:=h.st K (gu b);refine⟨f.au D (λa=>?_),k.au D (λa=>?_),z.au D (λa=>?_),⟨E,H,p3⟩,W⟩
   .rcases a with a|a|a|a|a|a
    .exact h.fD _ E a
    .exact(iM h.nq b o e) a
    .exact cU f WF (by decide) a
    .exact k9 u f a.symm
    .exact cU f r (by decide) a
    .exact k9 v f a.symm
   .rcases a with a|a|a|a|a|a
    .exact h.fD _ H a
    .exact cU k WE (by decide) a
    .exact(iM h.nl b o e) a
    .exact k9 u k a.symm
    .exact cU k r (by decide) a
    .exact k9 v k a.symm
   .rcases a with a|a|a|a|a|a
    .exact h.fD _ p3 a
    .exact k9 z WE a
    .exact k9 z WF a
    .exact(iM wP.1 b o e) a
    .exact k9 z r a
    .exact(wP.2.2 K.m (List.mem_map_of_mem (gu b)) J.n (List.mem_map_of_mem (gu A))) a
 .obtain⟨n,b⟩:=List.mem_iff_getElem?.1 O;by_cases e:n=j
  .subst e;rw [List.getElem?_set_self C] at b;cases b;refine⟨{I with G:=G'},by rw [Pw];exact List.getElem?_set_self uG,nK,nc,⟨pt,pn⟩,oZ⟩
  .rw [List.getElem?_set_ne (λh=>e h.symm)] at b;obtain⟨M,Q,f,k,⟨E,H⟩,z⟩:=h.tx K (gu b);have R:=(D.block _ (aw f) (λa=>by
    rcases a with a|a|a|a|a|a
    .exact h.fD _ E a
    .exact cU f WE (by decide) a
    .exact cU f WF (by decide) a
    .exact k9 u f a.symm
    .exact(iM h.nt b A e) a
    .exact k9 v f a.symm)).trans f
   have U:=k.au D (λa=>by
    rcases a with a|a|a|a|a|a
    .exact h.fD _ H a
    .exact k9 k WE a
    .exact k9 k WF a
    .exact(wP.2.2 I.m (List.mem_map_of_mem (gu o)) K.n (List.mem_map_of_mem (gu b))) a.symm
    .exact k9 k r a
    .exact(iM wP.2.1 b A e) a)
   by_cases N:K.i=i
   .rw [N,o] at Q;cases Q;exact⟨{I with G:=G'},by rw [N];exact List.getElem?_set_self uG,R,U,⟨E,H⟩,by rw [show ({I with G:=G'}:PI).G=G' from rfl,Y];exact z⟩
   .exact⟨M,by rw [List.getElem?_set_ne (λh=>N h.symm)];exact Q,R,U,⟨E,H⟩,z⟩
end
end
section
structure RI where
 k:Nat
 kl:Nat
 pv:Value
 ps:List (Nat×List Int)
 hm:Nat
 nv:Value
 G:SG
structure RJ where
 i:Nat
 u:Nat
 tv:Value
 us:List (Nat×List Int)
 T:TG
structure RW (w:World) (F X:Nat->Prop) (r s:Nat) (S:DS) (ss:List RI) (ts:List RJ):Prop where
 e:aB w F r s S
 fD:∀g,X g->¬F g
 lt:∀g,X g->g<w.heap.size
 st:∀I∈ss,iz w F X r s S I.k I.kl I.G I.pv I.ps I.hm I.nv
 tx:∀J∈ts,∃I,ss[J.i]? =some I/\nT w X I.k J.u I.G J.T J.tv J.us
 nk:(ss.map (·.k)).Nodup
 nl:(ss.map (·.kl)).Nodup
 nu:(ts.map (·.u)).Nodup
 r1:∀(i i':Nat) (I I':RI),ss[i]? =some I->ss[i']? =some I'->i≠i'->∀g,I.pv.ownBlock=some g->I'.pv.ownBlock≠some g
 r2:∀(j j':Nat) (J J':RJ),ts[j]? =some J->ts[j']? =some J'->j≠j'->∀g,J.tv.ownBlock=some g->J'.tv.ownBlock≠some g
 r3:∀I∈ss,∀J∈ts,∀g,I.pv.ownBlock=some g->J.tv.ownBlock≠some g
theorem mU {f:α->Nat} {l:List α} {i:Nat} {a b:α} (c:l[i]? =some a) (h:f b=f a):(l.set i b).map f=l.map f:=by
 rw [List.map_set];apply List.ext_getElem?;intro n;by_cases e:n=i
 .subst e;rw [List.getElem?_set_self (by simpa using ((mG.1 c).1)),Bd,c,h];rfl
 .rw [List.getElem?_set_ne (λh=>e h.symm)]
theorem dg {l:List α} {i:Nat} {a b x:α} (d:l[i]? =some a) (c:(l.set i b)[n]? =some x):(n=i/\x=b)\/(n≠i/\l[n]? =some x):=by
 by_cases e:n=i
 .subst e;rw [List.getElem?_set_self ((mG.1 d).1)] at c;exact .inl ⟨rfl,(Option.some.inj c).symm⟩
 .rw [List.getElem?_set_ne (λh=>e h.symm)] at c;exact .inr ⟨e,c⟩
section
variable {w w':World} {F F' X X':Nat->Prop} {r s i j:Nat} {S S':DS} {ss:List RI} {ts:List RJ} {I I':RI} {J J':RJ}
theorem RW.au (h:RW w F X r s S ss ts) (a:aa Z w w') (d:∀g,F g->¬Z g) (b:∀g,X g->¬Z g):RW w' F X r s S ss ts:=by
 refine⟨h.e.au a d,h.fD,λg j=>iP (h.lt g j) a.size,λI f=>(h.st I f).au a b,λJ i=>?_,h.nk,h.nl,h.nu,h.r1,h.r2,h.r3⟩;obtain⟨I,k,c⟩:=h.tx J i;exact⟨I,k,c.au a b⟩
theorem RW.later (h:RW w F X r s S ss ts) (a:bW w w'):RW w' F X r s S ss ts:=h.au (aa.ah (λ_=>False) a) (λ_ _ h=>h) (λ_ _ h=>h)
theorem RW.jI (h:RW w F X r s S ss ts) (a:ss[i]? =some I):iz w F X r s S I.k I.kl I.G I.pv I.ps I.hm I.nv:=h.st I (gu a)
theorem RW.oV (h:RW w F X r s S ss ts) (c:ts[j]? =some J) (b:ss[J.i]? =some I):nT w X I.k J.u I.G J.T J.tv J.us:=by
 obtain⟨I',nj,a⟩:=h.tx J (gu c);obtain rfl:I'=I:=Option.some.inj (nj.symm.trans b);exact a
theorem iz.other {e:Value} (h:iz w F X r s S k kl G e ps hm nv) (d:aa Z w w') (b:∀g,X g->X' g) (ZX:∀g,X' g->¬F' g) (bm:∀g,X' g->g<w'.heap.size) (f:¬Z k) (i:¬Z kl) (j:∀g,e.ownBlock=some g->¬Z g) (l:∀g c ys,X g->ay w 5 g c ys->¬Z g) (a:S'=S\/G.L.dead S'=true):iz w' F' X' r s S' k kl G e ps hm nv:=
   ⟨h.st.au d f,h.lp.au d i,(h.pl.au d j l).mono b,b _ h.xk,b _ h.xl,ZX,bm,h.lk,h.bg,h.hs,h.lh,h.ov,h.hm,h.kb,λhd=>by
  rcases a with a|a
  .rw [a] at hd⊢;exact h.un hd
  .rw [a] at hd;cases hd⟩
theorem nT.other {us:List (Nat×List Int)} (h:nT w X k u G T tv us) (b:aa Z w w') (a:∀g,X g->X' g) (d:G'.y=G.y) (e:¬Z u) (f:∀g,tv.ownBlock=some g->¬Z g) (i:∀g c ys,X g->ay w 5 g c ys->¬Z g):nT w' X' k u G' T tv us:=
   ⟨h.tx.au b e,a _ h.xt,(h.pl.au b f i).mono a,h.nd,h.pu,by rw [d];exact h.kb,h.D6⟩
theorem RW.on (h:RW w F X r s S ss ts) (m:ss[i]? =some I) (t:ts[j]? =some J) (Pw:J.i=i) (xq:I'.k=I.k) (MS:I'.kl=I.kl) (hy:I'.G.y=I.G.y) (hu:J'.u=J.u) (Q:J'.i=J.i)
    (he:aB w' F' r s S') (U:∀g,X g->X' g) (_hX':∀g,X' g->more X w w' g) (bt:iz w' F' X' r s S' I'.k I'.kl I'.G I'.pv I'.ps I'.hm I'.nv) (nK:nT w' X' I'.k J'.u I'.G J'.T J'.tv J'.us)
    (wW:I'.pv.ownBlock=I.pv.ownBlock\/∀g,I'.pv.ownBlock=some g->w.heap.size<=g) (Z:J'.tv.ownBlock=J.tv.ownBlock\/∀g,J'.tv.ownBlock=some g->w.heap.size<=g) (Y:∀g,I'.pv.ownBlock=some g->J'.tv.ownBlock≠some g)
    (W:aa (λg=>F g\/g=I.k\/g=I.kl\/g=J.u\/I.pv.ownBlock=some g\/J.tv.ownBlock=some g) w w') (hS:S'=S\/∀n K,ss[n]? =some K->n≠i->K.G.L.dead S'=true):
  RW w' F' X' r s S' (ss.set i I') (ts.set j J'):=by
 have uG:=(mG.1 m).1;have q:=h.jI m;have v:=h.oV t (by rw [Pw];exact m);have z:∀g c ys,X g->ay w 5 g c ys->¬(F g\/g=I.k\/g=I.kl\/g=J.u\/I.pv.ownBlock=some g\/J.tv.ownBlock=some g):=λg c ys hg H d=>by
  have DA:=H;obtain⟨cur,x,_⟩:=DA;rcases d with d|d|d|d|d|d
  .exact h.fD g hg d
  .exact H.ne q.st (by decide) d
  .exact H.ne q.lp (by decide) d
  .exact H.ne v.tx (by decide) d
  .exact q.pl.ne d x (by decide) rfl
  .exact v.pl.ne d x (by decide) rfl
 have Tl:∀{n:Nat} {K:RI},ss[n]? =some K->∀g,K.pv.ownBlock=some g->g<w.heap.size:=λC g e=>(h.jI C).pl.rlt g e;have K8:∀{n:Nat} {K:RJ},ts[n]? =some K->∀g,K.tv.ownBlock=some g->g<w.heap.size:=λC g e=>by
  obtain⟨M,E,hT⟩:=h.tx _ (gu C);exact hT.pl.rlt g e
 have aaI:∀g,I'.pv.ownBlock=some g->I.pv.ownBlock=some g\/w.heap.size<=g:=λg e=>wW.elim (λh=> .inl (h▸e)) (λh=> .inr (h g e));have aaJ:∀g,J'.tv.ownBlock=some g->J.tv.ownBlock=some g\/w.heap.size<=g:=λg e=>Z.elim (λh=> .inl (h▸e)) (λh=> .inr (h g e));refine⟨he,bt.fD,bt.lt,λK R=>?_,λK R=>?_,by rw [mU m xq];exact h.nk,by rw [mU m MS];exact h.nl,by rw [mU t hu];exact h.nu,λa b A B D x oz g o p=>?_,λa b A B D x oz g o p=>?_,λA hA B hB g o p=>?_⟩
 .obtain⟨n,C⟩:=List.mem_iff_getElem?.1 R;rcases dg m C with ⟨_,rfl⟩|⟨dG,Bk⟩
  .exact bt
  .have f:=h.jI Bk;refine f.other W U bt.fD bt.lt (λd=>?_) (λd=>?_) (λg e d=>?_) z (hS.imp id (λh=>h n K Bk dG))
   .rcases d with d|d|d|d|d|d
    .exact h.fD _ f.xk d
    .exact iM h.nk Bk m dG d
    .exact cU f.st q.lp (by decide) d
    .exact cU f.st v.tx (by decide) d
    .exact q.pl.ne d f.st (by decide) rfl
    .exact v.pl.ne d f.st (by decide) rfl
   .rcases d with d|d|d|d|d|d
    .exact h.fD _ f.xl d
    .exact cU f.lp q.st (by decide) d
    .exact iM h.nl Bk m dG d
    .exact cU f.lp v.tx (by decide) d
    .exact q.pl.ne d f.lp (by decide) rfl
    .exact v.pl.ne d f.lp (by decide) rfl
   .rcases d with d|d|d|d|d|d
    .exact h.fD _ (f.pl.row g e) d
    .exact f.pl.ne e q.st (by decide) d
    .exact f.pl.ne e q.lp (by decide) d
    .exact f.pl.ne e v.tx (by decide) d
    .exact h.r1 _ _ _ _ Bk m dG g e d
    .exact h.r3 K (gu Bk) J (gu t) g e d
 .obtain⟨n,C⟩:=List.mem_iff_getElem?.1 R;rcases dg t C with ⟨_,rfl⟩|⟨dG,Bk⟩
  .exact⟨I',by rw [Q,Pw];exact List.getElem?_set_self uG,nK⟩
  .obtain⟨M,E,f⟩:=h.tx K (gu Bk);have zu:¬(F K.u\/K.u=I.k\/K.u=I.kl\/K.u=J.u\/I.pv.ownBlock=some K.u\/J.tv.ownBlock=some K.u):=λd=>by
    rcases d with d|d|d|d|d|d
    .exact h.fD _ f.xt d
    .exact cU f.tx q.st (by decide) d
    .exact cU f.tx q.lp (by decide) d
    .exact iM h.nu Bk t dG d
    .exact q.pl.ne d f.tx (by decide) rfl
    .exact v.pl.ne d f.tx (by decide) rfl
   have zr:∀g,K.tv.ownBlock=some g->¬(F g\/g=I.k\/g=I.kl\/g=J.u\/I.pv.ownBlock=some g\/J.tv.ownBlock=some g):=λg e d=>by
    rcases d with d|d|d|d|d|d
    .exact h.fD _ (f.pl.row g e) d
    .exact f.pl.ne e q.st (by decide) d
    .exact f.pl.ne e q.lp (by decide) d
    .exact f.pl.ne e v.tx (by decide) d
    .exact h.r3 I (gu m) K (gu Bk) g d e
    .exact h.r2 _ _ _ _ Bk t dG g e d
   by_cases P:K.i=i
   .rw [P,m] at E;cases E;exact⟨I',by rw [P];exact List.getElem?_set_self uG,by rw [xq];exact f.other W U hy zu zr z⟩
   .exact⟨M,by rw [List.getElem?_set_ne (λh=>P h.symm)];exact E,f.other W U rfl zu zr z⟩
 .rcases dg m D with ⟨_,rfl⟩|⟨N,EC⟩<;> rcases dg m x with ⟨_,rfl⟩|⟨O,eC⟩
  .omega
  .rcases aaI g o with l|l
   .exact h.r1 _ _ _ _ m eC (λe=>O e.symm) g l p
   .have:=Tl eC g p;omega
  .rcases aaI g p with l|l
   .exact h.r1 _ _ _ _ EC m N g o l
   .have:=Tl EC g o;omega
  .exact h.r1 _ _ _ _ EC eC oz g o p
 .rcases dg t D with ⟨_,rfl⟩|⟨N,EC⟩<;> rcases dg t x with ⟨_,rfl⟩|⟨O,eC⟩
  .omega
  .rcases aaJ g o with l|l
   .exact h.r2 _ _ _ _ t eC (λe=>O e.symm) g l p
   .have:=K8 eC g p;omega
  .rcases aaJ g p with l|l
   .exact h.r2 _ _ _ _ EC t N g o l
   .have:=K8 EC g o;omega
  .exact h.r2 _ _ _ _ EC eC oz g o p
 .obtain⟨a,D⟩:=List.mem_iff_getElem?.1 hA;obtain⟨b,x⟩:=List.mem_iff_getElem?.1 hB;rcases dg m D with ⟨_,rfl⟩|⟨N,EC⟩<;> rcases dg t x with ⟨_,rfl⟩|⟨O,eC⟩
  .exact Y g o p
  .rcases aaI g o with l|l
   .exact h.r3 I (gu m) B (gu eC) g l p
   .have:=K8 eC g p;omega
  .rcases aaJ g p with l|l
   .exact h.r3 A (gu EC) J (gu t) g o l
   .have:=Tl EC g o;omega
  .exact h.r3 A (gu EC) B (gu eC) g o p
end
end
section
theorem iy {l:List Nat} (h:l.Nodup) (f:x∉l):(l ++ [x]).Nodup:=by
 rw [List.nodup_append];exact⟨h,by simp,λa c b d e=>by
  have:b=x:=by simpa using d
  exact f (this▸e▸c)⟩
section
variable {w w':World} {F F' P:Nat->Prop} {p s c c' i:Nat} {S S':DS} {ss:List PI} {ts:List PT} {I:PI} {G':SG}
theorem PW.lA (h:PW w F P p s S c ss ts) (m:∀g,F' g->more F w w' g) (hd:B.ax w' F' p s S' c') (a:aa F w w'):PW w' F' P p s S' c' ss ts:=by
 refine⟨hd,λg f i=>?_,λg f=>iP (h.lt g f) a.size,λI n=>?_,λJ o=>?_,h.nq,h.nl,h.nm,h.nt⟩
 .rcases m g i with i|i
  .exact h.fD g f i
  .have:=h.lt g f;omega
 .obtain⟨e,j,k,⟨b,d,p3⟩,l⟩:=h.st I n;exact⟨e.au a (h.fD _ b),j.au a (h.fD _ d),k.au a (h.fD _ p3),⟨b,d,p3⟩,l⟩
 .obtain⟨I,q,e,j,⟨b,d⟩,k⟩:=h.tx J o;exact⟨I,q,(a.block _ (aw e) (h.fD _ b)).trans e,j.au a (h.fD _ d),⟨b,d⟩,k⟩
theorem PW.onS (h:PW w F P p s S c ss ts) (j:ss[i]? =some I) (Q:G'.y=I.G.y) (O:∀g,F' g->more F w w' g) (bt:ig w' F' p s c' I.q I.l I.m S' G') (u:aa (λg=>F g\/g=I.q\/g=I.l\/g=I.m) w w'):
  PW w' F' P p s S' c' (ss.set i {I with G:=G'}) ts:=by
 obtain⟨WE,WF,o,⟨U,R,T⟩,_⟩:=h.st I (gu j);have wP:=List.nodup_append.1 h.nm;refine⟨bt.d,λg D a=>?_,λg D=>iP (h.lt g D) u.size,λK C=>?_,λK C=>?_,by rw [mU (f:=λx:PI=>x.q) (b:={I with G:=G'}) j rfl];exact h.nq,by rw [mU (f:=λx:PI=>x.l) (b:={I with G:=G'}) j rfl];exact h.nl,by rw [mU (f:=λx:PI=>x.m) (b:={I with G:=G'}) j rfl];exact h.nm,h.nt⟩
 .rcases O g a with a|a
  .exact h.fD g D a
  .have:=h.lt g D;omega
 .obtain⟨n,v⟩:=List.mem_iff_getElem?.1 C;rcases dg j v with ⟨_,rfl⟩|⟨e,v⟩
  .exact⟨bt.st,bt.lp,bt.ch,⟨U,R,T⟩,bt.lk,bt.bg,bt.hs,bt.kb⟩
  .obtain⟨k,r,t,⟨z,A,p3⟩,N⟩:=h.st K (gu v);refine⟨k.au u (λa=>?_),r.au u (λa=>?_),t.au u (λa=>?_),⟨z,A,p3⟩,N⟩
   .rcases a with a|a|a|a
    .exact h.fD _ z a
    .exact iM h.nq v j e a
    .exact cU k WF (by decide) a
    .exact k9 o k a.symm
   .rcases a with a|a|a|a
    .exact h.fD _ A a
    .exact cU r WE (by decide) a
    .exact iM h.nl v j e a
    .exact k9 o r a.symm
   .rcases a with a|a|a|a
    .exact h.fD _ p3 a
    .exact k9 t WE a
    .exact k9 t WF a
    .exact iM wP.1 v j e a
 .obtain⟨M,H,k,r,⟨z,A⟩,t⟩:=h.tx K C;have J:=(u.block _ (aw k) (λa=>by
   rcases a with a|a|a|a
   .exact h.fD _ z a
   .exact cU k WE (by decide) a
   .exact cU k WF (by decide) a
   .exact k9 o k a.symm)).trans k
  have L:=r.au u (λa=>by
   rcases a with a|a|a|a
   .exact h.fD _ A a
   .exact k9 r WE a
   .exact k9 r WF a
   .exact(wP.2.2 I.m (List.mem_map_of_mem (gu j)) K.n (List.mem_map_of_mem C)) a.symm)
  by_cases E:K.i=i
  .rw [E,j] at H;cases H;exact⟨{I with G:=G'},by rw [E];exact List.getElem?_set_self ((mG.1 j).1),J,L,⟨z,A⟩,by rw [show ({I with G:=G'}:PI).G=G' from rfl,Q];exact t⟩
  .exact⟨M,by rw [List.getElem?_set_ne (λh=>E h.symm)];exact H,J,L,⟨z,A⟩,t⟩
theorem PW.push {l m:Nat} (h:PW w F P p s S c ss ts) (z:∀g,F' g->more F w w' g) (bt:ig w' F' p s c' q l m S' G') (G:w.heap.size<=q) (D:w.heap.size<=l) (E:w.heap.size<=m) (A:aa F w w'):
  PW w' F' (λg=>P g\/g=q\/g=l\/g=m) p s S' c' (ss ++ [⟨q,l,m,G'⟩]) ts:=by
 have hd:=h.lA z bt.d A;have old:∀{g},P g->g<w.heap.size:=λj=>h.lt _ j;have wP:=List.nodup_append.1 h.nm;refine⟨bt.d,λg j i=>?_,λg j=>?_,λK f=>?_,λK f=>?_,?_,?_,?_,h.nt⟩
 .rcases j with j|rfl|rfl|rfl
  .exact hd.fD g j i
  .exact bt.nq i
  .exact bt.nl i
  .exact bt.nm i
 .rcases j with j|rfl|rfl|rfl
  .exact hd.lt g j
  .exact bt.st.lt
  .exact bt.lp.lt
  .exact bt.ch.lt
 .rcases List.mem_append.1 f with f|f
  .obtain⟨o,r,t,⟨u,n,p3⟩,y⟩:=hd.st K f;exact⟨o,r,t,⟨.inl u, .inl n, .inl p3⟩,y⟩
  .rw [List.mem_singleton.1 f];exact⟨bt.st,bt.lp,bt.ch,⟨.inr (.inl rfl), .inr (.inr (.inl rfl)), .inr (.inr (.inr rfl))⟩,bt.lk,bt.bg,bt.hs,bt.kb⟩
 .obtain⟨M,v,o,r,⟨u,n⟩,t⟩:=hd.tx K f;exact⟨M,by rw [List.getElem?_append_left (mG.1 v).1];exact v,o,r,⟨.inl u, .inl n⟩,t⟩
 .rw [List.map_append];refine iy h.nq (λi=>?_);obtain⟨K,f,e⟩:=List.mem_map.1 i;have:=old (h.st K f).2.2.2.1.1;simp only at e;omega
 .rw [List.map_append];refine iy h.nl (λi=>?_);obtain⟨K,f,e⟩:=List.mem_map.1 i;have:=old (h.st K f).2.2.2.1.2.1;simp only at e;omega
 .rw [List.map_append,List.nodup_append];refine⟨iy wP.1 (λi=>?_),wP.2.1,λa k b x=>?_⟩
  .obtain⟨K,f,e⟩:=List.mem_map.1 i;have:=old (h.st K f).2.2.2.1.2.2;simp only at e;omega
  .rcases List.mem_append.1 k with k|k
   .exact wP.2.2 a k b x
   .have C:a=m:=(by simpa using k);obtain⟨K,f,rfl⟩:=List.mem_map.1 x;obtain⟨M,_,_,_,⟨_,n⟩,_⟩:=h.tx K f;have:=old n;omega
theorem PW.aaK {t:Nat} (h:PW w F P p s S c ss ts) (D:ss[i]? =some I) (nK:w.heap[t]? =some (.cells (zK I.q n ⟨[],0,false⟩) 98 (0,0))) (nc:Ch w n []) (E:¬P t) (v:¬P n) (z:¬F t) (y:¬F n):
  PW w F (λg=>P g\/g=t\/g=n) p s S c ss (ts ++ [⟨i,t,n,⟨[],0,false⟩⟩]):=by
 have wP:=List.nodup_append.1 h.nm;refine⟨h.d,λg f b=>?_,λg f=>?_,λK a=>?_,λK a=>?_,h.nq,h.nl,?_,?_⟩
 .rcases f with f|rfl|rfl
  .exact h.fD g f b
  .exact z b
  .exact y b
 .rcases f with f|rfl|rfl
  .exact h.lt g f
  .exact aw nK
  .exact nc.lt
 .obtain⟨o,r,u,⟨k,l,p3⟩,A⟩:=h.st K a;exact⟨o,r,u,⟨.inl k, .inl l, .inl p3⟩,A⟩
 .rcases List.mem_append.1 a with a|a
  .obtain⟨M,C,o,r,⟨k,l⟩,u⟩:=h.tx K a;exact⟨M,C,o,r,⟨.inl k, .inl l⟩,u⟩
  .rw [List.mem_singleton.1 a];exact⟨I,D,nK,nc,⟨.inr (.inl rfl), .inr (.inr rfl)⟩,λx b=>by cases b⟩
 .rw [List.map_append,<-List.append_assoc];refine iy h.nm (λb=>?_);rcases List.mem_append.1 b with b|b
  .obtain⟨K,a,e⟩:=List.mem_map.1 b;have j:K.m=n:=e;exact v (j▸(h.st K a).2.2.2.1.2.2)
  .obtain⟨K,a,e⟩:=List.mem_map.1 b;obtain⟨M,_,_,_,⟨_,l⟩,_⟩:=h.tx K a;have j:K.n=n:=e;exact v (j▸l)
 .rw [List.map_append];refine iy h.nt (λb=>?_);obtain⟨K,a,e⟩:=List.mem_map.1 b;obtain⟨M,_,_,_,⟨k,_⟩,_⟩:=h.tx K a;have j:K.t=t:=e;exact E (j▸k)
end
end
section
section
variable {w w':World} {F F' X X' X2:Nat->Prop} {r s i j:Nat} {S S':DS} {ss:List RI} {ts:List RJ} {I I':RI} {J J':RJ}
theorem iz.ni {j:Value} (h:iz w F X r s S k kl G j ps hm nv) (d:aa F w w') (n:∀g,F' g->more F w w' g) (o:G.L.dead S'=false->G.L.dead S=false/\∀b,b<G.y.blocks->S'.now (G.y.home+b)=S.now (G.y.home+b)):iz w' F' X r s S' k kl G j ps hm nv:=
   ⟨h.st.au d (h.fD _ h.xk),h.lp.au d (h.fD _ h.xl),h.pl.au d (λg e=>h.fD _ (h.pl.row g e)) (λg _ _ f _=>h.fD g f),h.xk,h.xl,λg a f=>(n g f).elim (h.fD g a) (λf=>by have:=h.lt g a;omega),λg a=>iP (h.lt g a) d.size,h.lk,h.bg,h.hs,h.lh,h.ov,h.hm,h.kb,λhd b i a c p=>by
  obtain⟨l,m⟩:=o hd;rw [m b i];exact h.un l b i a c p⟩
theorem RW.lA (h:RW w F X r s S ss ts) (d:∀g,F' g->more F w w' g) (l:aB w' F' r s S') (c:aa F w w') (k:∀I∈ss,I.G.L.dead S'=false->I.G.L.dead S=false/\∀b,b<I.G.y.blocks->S'.now (I.G.y.home+b)=S.now (I.G.y.home+b)):RW w' F' X r s S' ss ts:=by
 refine⟨l,λg a f=>(d g f).elim (h.fD g a) (λf=>by have:=h.lt g a;omega),λg a=>iP (h.lt g a) c.size,λI e=>(h.st I e).ni c d (k I e),λJ j=>?_,h.nk,h.nl,h.nu,h.r1,h.r2,h.r3⟩;obtain⟨I,m,i⟩:=h.tx J j;exact⟨I,m,i.au c h.fD⟩
theorem RW.onS (h:RW w F X r s S ss ts) (j:ss[i]? =some I) (xq:I'.k=I.k) (MS:I'.kl=I.kl) (W:I'.G.y=I.G.y)
    (R:aB w' F' r s S') (bt:iz w' F' X r s S' I'.k I'.kl I'.G I'.pv I'.ps I'.hm I'.nv) (wW:I'.pv=I.pv)
    (z:aa (λg=>F g\/g=I.k\/g=I.kl) w w') (P:S'=S\/∀n K,ss[n]? =some K->n≠i->K.G.L.dead S'=true):
  RW w' F' X r s S' (ss.set i I') ts:=by
 have l:=h.jI j;have m:∀g c H,X g->ay w 5 g c H->¬(F g\/g=I.k\/g=I.kl):=λg c H T D d=>by
  rcases d with d|d|d
  .exact h.fD g T d
  .exact D.ne l.st (by decide) d
  .exact D.ne l.lp (by decide) d
 refine⟨R,bt.fD,bt.lt,λK t=>?_,λK t=>?_,by rw [mU j xq];exact h.nk,by rw [mU j MS];exact h.nl,h.nu,λa b A B x Q oz g o p=>?_,h.r2,λA O B C g o p=>?_⟩
 .obtain⟨n,U⟩:=List.mem_iff_getElem?.1 t;rcases dg j U with ⟨_,rfl⟩|⟨dG,Bk⟩
  .exact bt
  .have f:=h.jI Bk;refine f.other z (λ_ h=>h) bt.fD bt.lt (λd=>?_) (λd=>?_) (λg e d=>?_) m (P.imp id (λh=>h n K Bk dG))
   .rcases d with d|d|d
    .exact h.fD _ f.xk d
    .exact iM h.nk Bk j dG d
    .exact cU f.st l.lp (by decide) d
   .rcases d with d|d|d
    .exact h.fD _ f.xl d
    .exact cU f.lp l.st (by decide) d
    .exact iM h.nl Bk j dG d
   .rcases d with d|d|d
    .exact h.fD _ (f.pl.row g e) d
    .exact f.pl.ne e l.st (by decide) d
    .exact f.pl.ne e l.lp (by decide) d
 .obtain⟨M,v,f⟩:=h.tx K t;have N:¬(F K.u\/K.u=I.k\/K.u=I.kl):=λd=>by
   rcases d with d|d|d
   .exact h.fD _ f.xt d
   .exact cU f.tx l.st (by decide) d
   .exact cU f.tx l.lp (by decide) d
  have J:∀g,K.tv.ownBlock=some g->¬(F g\/g=I.k\/g=I.kl):=λg e d=>by
   rcases d with d|d|d
   .exact h.fD _ (f.pl.row g e) d
   .exact f.pl.ne e l.st (by decide) d
   .exact f.pl.ne e l.lp (by decide) d
  by_cases q:K.i=i
  .rw [q,j] at v;cases v;exact⟨I',by rw [q];exact List.getElem?_set_self ((mG.1 j).1),by rw [xq];exact f.other z (λ_ h=>h) W N J m⟩
  .exact⟨M,by rw [List.getElem?_set_ne (λh=>q h.symm)];exact v,f.other z (λ_ h=>h) rfl N J m⟩
 .rcases dg j x with ⟨_,rfl⟩|⟨E,EC⟩<;> rcases dg j Q with ⟨_,rfl⟩|⟨Y,eC⟩
  .omega
  .exact h.r1 _ _ _ _ j eC (λe=>Y e.symm) g (wW▸o) p
  .exact h.r1 _ _ _ _ EC j E g o (wW▸p)
  .exact h.r1 _ _ _ _ EC eC oz g o p
 .obtain⟨a,x⟩:=List.mem_iff_getElem?.1 O;rcases dg j x with ⟨_,rfl⟩|⟨E,EC⟩
  .exact h.r3 I (gu j) B C g (wW▸o) p
  .exact h.r3 A (gu EC) B C g o p
theorem RW.push (h:RW w F X r s S ss ts) (z:∀g,F' g->more F w w' g) (Ml:∀g,X2 g->w.heap.size<=g) (t:aB w' F' r s S') (bt:iz w' F' X2 r s S' I.k I.kl I.G I.pv I.ps I.hm I.nv) (wW:I.pv.ownBlock=none) (H:aa F w w') (C:∀K∈ss,K.G.L.dead S'=true):
  RW w' F' (λg=>X g\/X2 g) r s S' (ss ++ [I]) ts:=by
 have hd:=h.lA z t H (λK c i=>by rw [C K c] at i;cases i);have BQ:∀g,(X g\/X2 g)->¬F' g:=λg o=>o.elim (hd.fD g) (bt.fD g);have d:∀g,(X g\/X2 g)->g<w'.heap.size:=λg o=>o.elim (hd.lt g) (bt.lt g);have N:∀{K:RI},iz w' F' X r s S' K.k K.kl K.G K.pv K.ps K.hm K.nv->iz w' F' (λg=>X g\/X2 g) r s S' K.k K.kl K.G K.pv K.ps K.hm K.nv:=λg=>⟨g.st,g.lp,g.pl.mono (λ_ h=> .inl h), .inl g.xk, .inl g.xl,BQ,d,g.lk,g.bg,g.hs,g.lh,g.ov,g.hm,g.kb,g.un⟩;refine⟨t,BQ,d,λK c=>?_,λK c=>?_,?_,?_,h.nu,λa b A B D E oz g f m=>?_,h.r2,λA j B y g f m=>?_⟩
 .rcases List.mem_append.1 c with c|c
  .exact N (hd.st K c)
  .rw [List.mem_singleton.1 c];exact⟨bt.st,bt.lp,bt.pl.mono (λ_ h=> .inr h), .inr bt.xk, .inr bt.xl,BQ,d,bt.lk,bt.bg,bt.hs,bt.lh,bt.ov,bt.hm,bt.kb,bt.un⟩
 .obtain⟨M,q,g⟩:=hd.tx K c;exact⟨M,by rw [List.getElem?_append_left (mG.1 q).1];exact q,g.mono (λ_ h=> .inl h)⟩
 .rw [List.map_append];refine iy h.nk (λi=>?_);obtain⟨K,c,e⟩:=List.mem_map.1 i;have u:K.k=I.k:=e;have v:=h.lt _ (h.st K c).xk;have x:=Ml _ bt.xk;omega
 .rw [List.map_append];refine iy h.nl (λi=>?_);obtain⟨K,c,e⟩:=List.mem_map.1 i;have u:K.kl=I.kl:=e;have v:=h.lt _ (h.st K c).xl;have x:=Ml _ bt.xl;omega
 .have l:∀{n:Nat} {A:RI},(ss ++ [I])[n]? =some A->A.pv.ownBlock=some g->ss[n]? =some A:=λ{n A} p e=>by
   by_cases J:n<ss.length
   .rwa [List.getElem?_append_left J] at p
   .rw [List.getElem?_append_right (by omega)] at p;have:A=I:=by
     have:=gu p;simpa using this
    rw [this,wW] at e;cases e
  exact h.r1 _ _ _ _ (l D f) (l E m) oz g f m
 .rcases List.mem_append.1 j with j|j
  .exact h.r3 A j B y g f m
  .rw [List.mem_singleton.1 j,wW] at f;cases f
theorem RW.aaK (h:RW w F X r s S ss ts) (E:ss[i]? =some I) (nK:nf w u I.k (.slice none 0 0) ⟨[],0,false⟩) (H:¬X u) (y:¬F u):
  RW w F (λg=>X g\/g=u) r s S ss (ts ++ [⟨i,u, .slice none 0 0, [],⟨[],0,false⟩⟩]):=by
 have BQ:∀g,(X g\/g=u)->¬F g:=λg o=>o.elim (h.fD g) (λe=>e▸y);have l:∀g,(X g\/g=u)->g<w.heap.size:=λg o=>o.elim (h.lt g) (λe=>e▸nK.lt);refine⟨h.e,BQ,l,λK c=>?_,λK c=>?_,h.nk,h.nl,?_,h.r1,λa b A B C D oz g m d=>?_,λA z B f g m d=>?_⟩
 .have g:=h.st K c;exact⟨g.st,g.lp,g.pl.mono (λ_ h=> .inl h), .inl g.xk, .inl g.xl,BQ,l,g.lk,g.bg,g.hs,g.lh,g.ov,g.hm,g.kb,g.un⟩
 .rcases List.mem_append.1 c with c|c
  .obtain⟨M,t,g⟩:=h.tx K c;exact⟨M,t,g.mono (λ_ h=> .inl h)⟩
  .rw [List.mem_singleton.1 c];exact⟨I,E,⟨nK, .inr rfl,Pl.nil _ _,List.nodup_nil,λ_=>rfl,λx q=>(by cases q),dU _⟩⟩
 .rw [List.map_append];refine iy h.nu (λq=>?_);obtain⟨K,c,e⟩:=List.mem_map.1 q;have v:K.u=u:=e;obtain⟨M,t,g⟩:=h.tx K c;exact H (v▸g.xt)
 .have j:∀{n:Nat} {A:RJ},(ts ++ [⟨i,u, .slice none 0 0, [],⟨[],0,false⟩⟩])[n]? =some A->A.tv.ownBlock=some g->ts[n]? =some A:=λ{n A} p e=>by
   by_cases G:n<ts.length
   .rwa [List.getElem?_append_left G] at p
   .rw [List.getElem?_append_right (by omega)] at p;have:A=⟨i,u, .slice none 0 0, [],⟨[],0,false⟩⟩:=by
     have:=gu p;simpa using this
    rw [this] at e;simp [Value.ownBlock] at e
  exact h.r2 _ _ _ _ (j C m) (j D d) oz g m d
 .rcases List.mem_append.1 f with f|f
  .exact h.r3 A z B f g m d
  .rw [List.mem_singleton.1 f] at d;simp [Value.ownBlock] at d
end
end
def IN (n:Int) (i:Nat):Int:=if i%7=3 then IntKind.u8.wrap (n / 256) else IntKind.u8.wrap n
def zI9 (n:Int):List Int:=(List.range 512).map (IN n)
theorem uC (n:Int):(zI9 n).length=512:=by simp [zI9]
def BT (n:Int) (k:Nat):List Int:=(List.range k).map (IN n) ++ List.replicate (512-k) 0
theorem TT (n:Int) (h:k<=512):(BT n k).length=512:=by simp [BT];omega
theorem TU (n:Int) (h:k<512):(BT n k).set k (IN n k)=BT n (k+1):=by
 unfold BT;rw [List.set_append_right _ _ (by simp),List.range_succ,List.map_append,List.append_assoc];congr 1;simp only [List.length_map,List.length_range,Nat.sub_self];rw [show 512-k=(512-(k+1))+1 by omega,List.replicate_succ];rfl
theorem TV (n:Int):BT n 512=zI9 n:=by simp [BT,zI9]
theorem O6 (n:Int) (w:World):
  Calls prog 132 #[iV n] w λe w'=>e= .returned (.slice (some (aD w.heap.size 0)) 512 512)/\ay w' 5 w.heap.size 512 (bs (zI9 n))/\bW w w':=by
 obtain⟨r,p,gv,dr,ec⟩:=info_parts fW;go_in;go_wp2_with (at_make;refine wpList_make_full _ rfl _ _ 36 rfl w.heap.size 5 r (.int .u8 0) 1 underlying36 p gv dr _ _ _ _ 512 rfl rfl (by omega) (by omega) (by rw [ec];omega) (by unfold maxLen;omega) (bP _) ?_);intro w1 az aO;have g:=(bi _ w).grown aO (bP _) (by intro k d;cases d);have j:Full w1 w.heap.size (BT n 0):=(lJ az).full (by simp [bs]);have m:=j;have l:=g;clear az aO j g;go_wp2;go_loopw [4] (λi wr=>∃k:Nat,k<=512/\i=iV (k:Int)/\Full wr w.heap.size (BT n k)/\bW w wr) (λi _=>512-(intOf i).toNat);case atStart=>exact⟨0,by omega,rfl,m,l⟩
 case round=>
  obtain⟨k,d,rfl,zt,dO⟩:=hrel;by_cases q:k<512
  .have s:(k:Int)<512:=(by omega);have t:=zt.cell (i:=k) (by rw [TT n d];exact q);have v:=zt.frozen k;have u:(k:Int).tmod 7=((k%7:Nat):Int):=(by rw [Int.tmod_eq_emod_of_nonneg (by omega)];omega);have a:=zt;have l9:=dO;have f:=TU n q;clear zt dO;by_cases c:k%7=3
   .have o:(((k%7:Nat):Int) == 3)=true:=(by rw [c];rfl);have X8:IN n k=IntKind.u8.wrap (n / 256):=(by unfold IN;rw [aE c]);have b:=X8;clear X8 c;go_wp2;go_roundw;case rel=>exact⟨k+1,by omega,by go_num,by rw [<-f,b,<-CY (BT n k) k (n%256)];exact(a.set k _).set k _,(l9.setCell (bP _) _).setCell (bP _) _⟩
    case measure=>simp [intOf];omega
   .have o:(((k%7:Nat):Int) == 3)=false:=(by rw [eG];omega);have X8:IN n k=IntKind.u8.wrap n:=(by unfold IN;rw [aA c]);have b:=X8;clear X8 c;go_wp2;go_roundw;case rel=>exact⟨k+1,by omega,by go_num,by rw [<-f,b];exact a.set k _,l9.setCell (bP _) _⟩
    case measure=>simp [intOf];omega
  .have s:¬(k:Int)<512:=(by omega);obtain rfl:k=512:=(by omega);rw [TV] at zt;have a:=zt;have l9:=dO;clear zt dO;go_wp2;go_ret;exact⟨rfl,by have:=ay.Ev a (by rw [uC];omega);rwa [uC] at this,l9⟩
theorem LC (n:Int):Bytes (zI9 n):=λx c=>by
 unfold zI9 at c;obtain⟨i,_,rfl⟩:=List.mem_map.1 c;unfold IN;split
 .have a:0<=n / 256%256:=Int.emod_nonneg _ (by decide);have b:n / 256%256<256:=Int.emod_lt_of_pos _ (by decide);exact⟨a,b⟩
 .have a:0<=n%256:=Int.emod_nonneg _ (by decide);have b:n%256<256:=Int.emod_lt_of_pos _ (by decide);exact⟨a,b⟩
abbrev iO (kd ag A B:Int) (da:Option Addr) (dn dc:Nat) (pa:Option Addr) (pn pc:Nat) (x y z:Int):Array Value:= #[iV kd,iV ag,iV A,iV B, .slice da dn dc, .slice pa pn pc,iV x,iV y,iV z]
def ld (B:Int) (d:List Int):List Int:=if d.length=0/\B≠0 then zI9 B else d
theorem lB (o m A B:Int) (i:Option Addr) (a k:Nat) (p:Option Addr) (s r:Nat) (x y z:Int) (d:List Int) (w:World) (n:Src w i a d) (E:a<=140737488355328):
  Calls prog 80 #[.agg (iO o m A B i a k p s r x y z)] w λe w'=>∃g,e= .returned (.slice (some (aD g 0)) (ld B d).length (ld B d).length)/\w.heap.size<=g/\ay w' 5 g (ld B d).length (bs (ld B d))/\bW w w':=by
 have t:=n.1;obtain⟨W,b⟩:=bQ (w.alloc (.cells (iO o m A B i a k p s r x y z) 41));have EB:bW w W:=by rw [b];exact(bi w.heap.size w).alloc (bP _) _
 have BP:W.heap[w.heap.size]? =some (.cells (iO o m A B i a k p s r x y z) 41 (0,0)):=by rw [b];exact heap_alloc_new _ _
 have G:W.cell? (aD w.heap.size 3)=some (iV B):=fI BP;have H:W.cell? (aD w.heap.size 4)=some (.slice i a k):=gz BP;have l:=tf i a k d W E (n.later EB);have CQ:=EB;have Hv:W.heap.size=w.heap.size+1:=by rw [b,World.size_alloc]
 unfold ld;clear n EB BP;by_cases q:d.length=0/\B≠0
 .rw [aE q,uC];obtain⟨u,v⟩:=q;obtain rfl:a=0:=by omega
  have C:(B != 0)=true:=by rw [fT];exact v
  clear v l;go_in;go_wp2_with fail;try rw [<-b]
  try clear b
  try go_wp2_with fail
  refine(O6 B W).mono ?_;rintro e w1 ⟨rfl,f,c⟩;have j:=(aF f (CQ.trans (c.mono (by omega))));clear f c;go_wp2;go_ret;exact⟨w.heap.size+1,rfl,by omega,by rw [<-Hv];exact j⟩
 .rw [aA q,t];by_cases u:a=0
  .subst u;have C:(B != 0)=false:=(by rw [bne_eq_false_iff_eq];exact Decidable.byContradiction (λh=>q ⟨t,h⟩));clear q;go_in;go_wp2_with fail;try rw [<-b]
   try clear b
   try go_wp2_with fail
   refine l.mono ?_;rintro e w1 ⟨g,rfl,D,f,c⟩;have j:=(aF f (CQ.trans (c.mono (by omega))));clear l f c;go_wp2;go_ret;exact⟨g,rfl,by omega,j⟩
  .have F:((a:Int) == 0)=false:=(by rw [eG];omega);clear q;go_in;go_wp2_with fail;try rw [<-b]
   try clear b
   try go_wp2_with fail
   refine l.mono ?_;rintro e w1 ⟨g,rfl,D,f,c⟩;have j:=(aF f (CQ.trans (c.mono (by omega))));clear l f c;go_wp2;go_ret;exact⟨g,rfl,by omega,j⟩
section
abbrev pV (l:Nat):Value:=pQ l
abbrev Ut (p r:Nat) (v1 v2 v3 v4:Value):Array Value:= #[pV p,pV r,v1,v2,v3,v4]
structure W5 (w:World) (q:Nat) (F P F2 X O:Nat->Prop) (p r s:Nat) (S S2:DS) (c:Nat) (v1 v2 v3 v4:Value) (ss:List PI) (ts:List PT) (rs:List RI) (us:List RJ):Prop where
 box:w.heap[q]? =some (.cells (Ut p r v1 v2 v3 v4) 35 (0,0))
 oq:O q
 oW:∀g,O g->g<w.heap.size
 pw:PW w F P p s S c ss ts
 rw:RW w F2 X r s S2 rs us
 o1:w.ownsRow 0 53 1 v1 ss.length (ss.map (λI=>pV I.q))
 q1:∀g,v1.ownBlock=some g->O g
 o2:w.ownsRow 0 110 1 v2 rs.length (rs.map (λI=>pV I.k))
 q2:∀g,v2.ownBlock=some g->O g
 o3:w.ownsRow 0 56 1 v3 ts.length (ts.map (λJ=>pV J.t))
 q3:∀g,v3.ownBlock=some g->O g
 o4:w.ownsRow 0 122 1 v4 us.length (us.map (λJ=>pV J.u))
 q4:∀g,v4.ownBlock=some g->O g
 ad:∀g,(F g\/P g)->¬(F2 g\/X g)
 oa:∀g,O g->¬(F g\/P g)
 od:∀g,O g->¬(F2 g\/X g)
structure Lk (S:DS) (s N:Nat) (ss:List PI) (ts:List PT) (rs:List RI) (us:List RJ):Prop where
 sl:rs.length=ss.length
 sg:∀(i:Nat) (I:PI) (R:RI),ss[i]? =some I->rs[i]? =some R->R.G=I.G
 tl:us.length=ts.length
 tg:∀(j:Nat) (J:PT) (K:RJ),ts[j]? =some J->us[j]? =some K->K.i=J.i/\K.T=J.T
 inv:V.Inv S s (ss.map (λI=>I.G.L)) N
 now:∀(i:Nat) (I:PI) (R:RI),ss[i]? =some I->rs[i]? =some R->
    (R.nv= .pointer none/\I.G.busy=false/\∀(j:Nat) (J:PT),ts[j]? =some J->J.i=i->J.T.ended=true)\/
  ∃(j:Nat) (J:PT) (K:RJ),ts[j]? =some J/\us[j]? =some K/\J.i=i/\R.nv=pV K.u/\J.T.ended=!I.G.busy/\∀(j':Nat) (J':PT),ts[j']? =some J'->J'.i=i->j'≠j->J'.T.ended=true
 cs:∀R∈rs,R.ps.length<=N
 ct:∀(i:Nat) (R:RI) (K:RJ),rs[i]? =some R->K∈us->K.i=i->K.T.ended=false->R.ps.length+K.us.length<=N
 rf:S.refused=0
section
variable {w w':World} {q:Nat} {F P F2 X O F' P' X':Nat->Prop} {p r s c c':Nat} {S S2 S':DS} {v1 v2 v3 v4:Value} {ss Tm:List PI} {ts WG:List PT} {rs Ba:List RI} {us KB:List RJ}
theorem W5.c0 (h:W5 w q F P F2 X O p r s S S2 c v1 v2 v3 v4 ss ts rs us):w.cell? (aD q 0)=some (pV p):=aL h.box
theorem W5.c1 (h:W5 w q F P F2 X O p r s S S2 c v1 v2 v3 v4 ss ts rs us):w.cell? (aD q 1)=some (pV r):=bD h.box
theorem W5.c2 (h:W5 w q F P F2 X O p r s S S2 c v1 v2 v3 v4 ss ts rs us):w.cell? (aD q 2)=some v1:=bH h.box
theorem W5.c3 (h:W5 w q F P F2 X O p r s S S2 c v1 v2 v3 v4 ss ts rs us):w.cell? (aD q 3)=some v2:=fI h.box
theorem W5.c4 (h:W5 w q F P F2 X O p r s S S2 c v1 v2 v3 v4 ss ts rs us):w.cell? (aD q 4)=some v3:=gz h.box
theorem W5.c5 (h:W5 w q F P F2 X O p r s S S2 c v1 v2 v3 v4 ss ts rs us):w.cell? (aD q 5)=some v4:=rU h.box
theorem W5.au (h:W5 w q F P F2 X O p r s S S2 c v1 v2 v3 v4 ss ts rs us) (b:aa Z w w') (d:∀g,(F g\/P g\/F2 g\/X g\/O g)->¬Z g):W5 w' q F P F2 X O p r s S S2 c v1 v2 v3 v4 ss ts rs us:=by
 have f:=λg a=>d g (.inr (.inr (.inr (.inr a))));exact⟨(b.block q (h.oW q h.oq) (f q h.oq)).trans h.box,h.oq,λg a=>iP (h.oW g a) b.size,h.pw.au b (λg a=>d g (.inl a)) (λg a=>d g (.inr (.inl a))),h.rw.au b (λg a=>d g (.inr (.inr (.inl a)))) (λg a=>d g (.inr (.inr (.inr (.inl a))))),aC h.o1 (λg e=>b.block g (h.oW g (h.q1 g e)) (f g (h.q1 g e))),h.q1,aC h.o2 (λg e=>b.block g (h.oW g (h.q2 g e)) (f g (h.q2 g e))),h.q2,aC h.o3 (λg e=>b.block g (h.oW g (h.q3 g e)) (f g (h.q3 g e))),h.q3,aC h.o4 (λg e=>b.block g (h.oW g (h.q4 g e)) (f g (h.q4 g e))),h.q4,h.ad,h.oa,h.od⟩
theorem W5.later (h:W5 w q F P F2 X O p r s S S2 c v1 v2 v3 v4 ss ts rs us) (a:bW w w'):W5 w' q F P F2 X O p r s S S2 c v1 v2 v3 v4 ss ts rs us:=h.au (aa.ah (λ_=>False) a) (λ_ _ h=>h)
theorem W5.prog (h:W5 w q F P F2 X O p r s S S2 c v1 v2 v3 v4 ss ts rs us) (i:PW w' F' P p s S' c' Tm WG) (d:aa (λg=>F g\/P g) w w') (m:∀g,F' g->more F w w' g) (j:Tm.map (λI=>pV I.q)=ss.map (λI=>pV I.q)) (k:WG.map (λJ=>pV J.t)=ts.map (λJ=>pV J.t)):W5 w' q F' P F2 X O p r s S' S2 c' v1 v2 v3 v4 Tm WG rs us:=by
 have f:=h.oa;have n:Tm.length=ss.length:=by have:=congrArg List.length j;simpa using this
 have o:WG.length=ts.length:=by have:=congrArg List.length k;simpa using this
 have l:=λg a=>(m g a).imp id (λh=>h.1);refine⟨(d.block q (h.oW q h.oq) (f q h.oq)).trans h.box,h.oq,λg a=>iP (h.oW g a) d.size,i,h.rw.au d (λg a b=>h.ad g b (.inl a)) (λg a b=>h.ad g b (.inr a)),by rw [n,j];exact aC h.o1 (λg e=>d.block g (h.oW g (h.q1 g e)) (f g (h.q1 g e))),h.q1,aC h.o2 (λg e=>d.block g (h.oW g (h.q2 g e)) (f g (h.q2 g e))),h.q2,by rw [o,k];exact aC h.o3 (λg e=>d.block g (h.oW g (h.q3 g e)) (f g (h.q3 g e))),h.q3,aC h.o4 (λg e=>d.block g (h.oW g (h.q4 g e)) (f g (h.q4 g e))),h.q4,λg a b=>?_,λg a b=>?_,h.od⟩
 .rcases a with a|a
  .rcases l g a with a|a
   .exact h.ad g (.inl a) b
   .rcases b with b|b
    .have:=h.rw.e.lt g b;omega
    .have:=h.rw.lt g b;omega
  .exact h.ad g (.inr a) b
 .rcases b with b|b
  .rcases l g b with b|b
   .exact h.oa g a (.inl b)
   .have:=h.oW g a;omega
  .exact h.oa g a (.inr b)
theorem W5.doc {Yc:Nat->Prop} (h:W5 w q F P F2 X O p r s S S2 c v1 v2 v3 v4 ss ts rs us) (l:RW w' Yc X' r s S' Ba KB) (i:aa (λg=>F2 g\/X g) w w') (v:∀g,Yc g->more F2 w w' g) (x:∀g,X' g->more X w w' g) (m:Ba.map (λI=>pV I.k)=rs.map (λI=>pV I.k)) (n:KB.map (λJ=>pV J.u)=us.map (λJ=>pV J.u)):W5 w' q F P Yc X' O p r s S S' c v1 v2 v3 v4 ss ts Ba KB:=by
 have j:=h.od;have y:Ba.length=rs.length:=by have:=congrArg List.length m;simpa using this
 have z:KB.length=us.length:=by have:=congrArg List.length n;simpa using this
 have o:=λg a=>(v g a).imp id (λh=>h.1);have t:=λg a=>(x g a).imp id (λh=>h.1);refine⟨(i.block q (h.oW q h.oq) (j q h.oq)).trans h.box,h.oq,λg a=>iP (h.oW g a) i.size,h.pw.au i (λg a f=>h.ad g (.inl a) f) (λg a f=>h.ad g (.inr a) f),l,aC h.o1 (λg e=>i.block g (h.oW g (h.q1 g e)) (j g (h.q1 g e))),h.q1,by rw [y,m];exact aC h.o2 (λg e=>i.block g (h.oW g (h.q2 g e)) (j g (h.q2 g e))),h.q2,aC h.o3 (λg e=>i.block g (h.oW g (h.q3 g e)) (j g (h.q3 g e))),h.q3,by rw [z,n];exact aC h.o4 (λg e=>i.block g (h.oW g (h.q4 g e)) (j g (h.q4 g e))),h.q4,λg a f=>?_,h.oa,λg a f=>?_⟩
 .have bm:=a.elim (λb=>h.pw.d.lt g b) (λb=>h.pw.lt g b);rcases f with f|f
  .exact(o g f).elim (λb=>h.ad g a (.inl b)) (λb=>by omega)
  .exact(t g f).elim (λb=>h.ad g a (.inr b)) (λb=>by omega)
 .have bm:=h.oW g a;rcases f with f|f
  .exact(o g f).elim (λb=>h.od g a (.inl b)) (λb=>by omega)
  .exact(t g f).elim (λb=>h.od g a (.inr b)) (λb=>by omega)
theorem vC {w:World} {x:Value} (h:w.ownsRow 0 e 1 v n xs) (b:xs[i]? =some x):∃g cp,v= .slice (some (aD g 0)) n cp/\w.cell? (aD g i)=some x:=by
 have c:=h;obtain⟨d,⟨rfl,h0⟩|⟨g,a,cur,rfl,_⟩⟩:=h
 .rw [h0] at d;have:xs= []:=List.length_eq_zero_iff.1 (by omega);rw [this] at b;cases b
 .refine⟨g,a,rfl,?_⟩;have:=c.cells (g:=g) rfl i _ b;rwa [aK,Nat.zero_add] at this
end
end
section
def bk (n:Nat) (x:Int):Int:=if n=0 then-1 else ((n-1-x.toNat%n:Nat):Int)
theorem Tn (h:0<n) (x:Int):∃i:Nat,i<n/\bk n x=(i:Int):=⟨n-1-x.toNat%n,by omega,by unfold bk;rw [aA (by omega)]⟩
theorem Az (w:World) (n:Nat) (x:Int) (j:x<=9223372036854775807) (i:n<=140737488355328):
  Calls prog 73 #[iV (n:Int),iV x] w λe w'=>e= .returned (iV (bk n x))/\w'=w:=by
 by_cases h0:n=0
 .subst h0;go_in;go_wp2;go_ret;exact⟨rfl,rfl⟩
 .have f:¬(n:Int)=0:=by omega
  have g:((n:Int) == 0)=false:=by rw [eG];omega
  have sd:bk n x=((n-1-x.toNat%n:Nat):Int):=by unfold bk;rw [aA h0]
  rw [sd];clear sd;by_cases k:x<0
  .have a:(0:Int).tmod (n:Int)=0:=(by simp);have b:x.toNat%n=0:=(by rw [show x.toNat=0 by omega];exact Nat.zero_mod n);rw [b];clear b;go_in;go_wp2;go_ret;exact⟨by congr 1;congr 1;first|omega|(simp;omega),rfl⟩
  .obtain⟨y,rfl⟩:∃y:Nat,x=(y:Int):=⟨x.toNat,by omega⟩;rw [Int.toNat_natCast];have a:(y:Int).tmod (n:Int)=((y%n:Nat):Int):=(by rw [Int.tmod_eq_emod_of_nonneg (by omega),<-Int.natCast_emod]);have c:y%n<n:=Nat.mod_lt _ (by omega);have d:IntKind.i64.wrap ((y%n:Nat):Int)=((y%n:Nat):Int):=(by rw [IntKind.wrap_i64];omega);obtain⟨m,BV⟩:=bQ (y%n);rw [<-BV] at a c d⊢;clear BV;go_in;go_wp2;go_ret;exact⟨by congr 1;congr 1;first|omega|(simp;omega),rfl⟩
def E5 (w:World) (q:Nat) (A:Nat->Prop) (p r s N:Nat):Prop:=
 ∃(F P F2 X O:Nat->Prop) (S:DS) (c:Nat) (v1 v2 v3 v4:Value) (ss:List PI) (ts:List PT) (rs:List RI) (us:List RJ),W5 w q F P F2 X O p r s S S c v1 v2 v3 v4 ss ts rs us/\Lk S s N ss ts rs us/\(∀g,(F g\/P g\/F2 g\/X g\/O g)->A g)/\ss.length<=N/\ts.length<=N/\c<=5000*N
def dJ (w w':World) (q:Nat) (A:Nat->Prop) (p r s N:Nat):Prop:=∃A',E5 w' q A' p r s (N+2)/\aa A w w'/\∀g,A' g->A g\/w.heap.size<=g
section
variable {w w':World} {q:Nat} {F P F2 X O A:Nat->Prop} {p r s c N:Nat} {S:DS} {v1 v2 v3 v4:Value} {ss:List PI} {ts:List PT} {rs:List RI} {us:List RJ}
theorem V.Inv.more {t a:Nat} (h:V.Inv S s ls t) (b:t<=a):V.Inv S s ls a:=⟨h.ok,h.pO,h.p6,h.p2,h.l0,by have:=h.lt;omega,h.ol,h.li,h.al⟩
theorem Lk.more (h:Lk S s N ss ts rs us) (a:N<=M):Lk S s M ss ts rs us:=⟨h.sl,h.sg,h.tl,h.tg,h.inv.more a,h.now,λR f=>jQ (h.cs R f) a,λi R K b c d e=>jQ (h.ct i R K b c d e) a,h.rf⟩
theorem dJ.idle (h:W5 w' q F P F2 X O p r s S S c v1 v2 v3 v4 ss ts rs us) (d:Lk S s N ss ts rs us) (a:∀g,(F g\/P g\/F2 g\/X g\/O g)->A g) (e:ss.length<=N) (f:ts.length<=N) (i:c<=5000*N) (b:bW w w'):dJ w w' q A p r s N:=
   ⟨A,⟨F,P,F2,X,O,S,c,v1,v2,v3,v4,ss,ts,rs,us,h,d.more (by omega),a,by omega,by omega,by omega⟩,aa.ah _ b,λ_ h=> .inl h⟩
end
end
section
section
variable {w w':World} {q:Nat} {F P F2 X O A:Nat->Prop} {p r s c N:Nat} {S:DS} {v1 v2 v3 v4:Value} {ss:List PI} {ts:List PT} {rs:List RI} {us:List RJ}
theorem AB {w:World} (h:w.ownsRow 0 e 1 v n xs):∃a cp,v= .slice a n cp:=by
 obtain⟨_,⟨rfl,h0⟩|⟨g,b,cur,rfl,_⟩⟩:=h
 .exact⟨none,0,by rw [h0]⟩
 .exact⟨_,_,rfl⟩
theorem W5.tx (h:W5 w q F P F2 X O p r s S S c v1 v2 v3 v4 ss ts rs us) (a:Lk S s N ss ts rs us) (d:j<ts.length):∃J K I R,ts[j]? =some J/\us[j]? =some K/\ss[J.i]? =some I/\rs[J.i]? =some R/\K.i=J.i/\K.T=J.T/\R.G=I.G:=by
 obtain⟨I,b,_⟩:=h.pw.tx ts[j] (List.getElem_mem d);have f:us[j]? =some (us[j]'(by rw [a.tl];exact d)):=List.getElem?_eq_getElem _;have e:=List.getElem?_eq_getElem d;have g:rs[ts[j].i]? =some (rs[ts[j].i]'(by rw [a.sl];exact((mG.1 b).1))):=List.getElem?_eq_getElem _;obtain⟨k,l⟩:=a.tg j _ _ e f;exact⟨_,_,I,_,e,f,b,g,k,l,a.sg _ _ _ b g⟩
end
end
section
section
variable {w w':World} {F P F2 X:Nat->Prop} {p r s c N q l m t n i j:Nat} {S:DS} {G:SG} {T T':TG} {ss:List PI} {ts:List PT} {rs:List RI} {us:List RJ} {I:PI} {R:RI} {J J':PT} {K K':RJ}
theorem ig.aaL (h:ig w F p s c q l m S G) (b:mx w F q l m t n G T) (e:aa (λg=>g=t\/g=n) w w'):ig w' F p s c q l m S G:=
   ⟨h.d.au e (λg f a=>by rcases a with rfl|rfl;exact b.nt f;exact b.nn f),h.st.au e (λa=>by rcases a with a|a;exact b.tq a.symm;exact b.nq a.symm),h.lp.au e (λa=>by rcases a with a|a;exact b.tl a.symm;exact b.nl a.symm),h.ch.au e (λa=>by rcases a with a|a;exact b.tm a.symm;exact b.nm a.symm),h.nq,h.nl,h.nm,h.ql,h.qm,h.lm,h.lk,h.bg,h.hs,h.kb⟩
theorem mD {l:List α} {i:Nat} {a:α} (h:l[i]? =some a):l.set i a=l:=by
 apply List.ext_getElem?;intro n;by_cases e:n=i
 .subst e;rw [List.getElem?_set_self (mG.1 h).1,h]
 .rw [List.getElem?_set_ne (λh=>e h.symm)]
theorem Lk.K9 (h:Lk S s N ss ts rs us) (d:ts[j]? =some J) (f:us[j]? =some K) (w:J'.i=J.i) (E:K'.i=K.i) (O:K'.u=K.u) (F:K'.T=J'.T) (x:J'.T.ended=J.T.ended) (Z:K'.us.length<=K.us.length+1):Lk S s (N+1) ss (ts.set j J') rs (us.set j K'):=by
 obtain⟨U,W⟩:=h.tg j J K d f;refine⟨h.sl,h.sg,by rw [List.length_set,List.length_set];exact h.tl,λn A B a l=>?_,h.inv.more (by omega),λi I R X g=>?_,λR g=>by have:=h.cs R g;omega,λi R B g l k G=>?_,h.rf⟩
 .rcases dg d a with ⟨P,rfl⟩|⟨H,a⟩<;> rcases dg f l with ⟨Q,rfl⟩|⟨L,l⟩
  .exact⟨by rw [E,w,U],F⟩
  .exact absurd P L
  .exact absurd Q H
  .exact h.tg n A B a l
 .have b:∀(n:Nat) (A:PT),(ts.set j J')[n]? =some A->∃c,ts[n]? =some c/\c.i=A.i/\c.T.ended=A.T.ended:=λn A a=>by
   rcases dg d a with ⟨rfl,rfl⟩|⟨H,a⟩
   .exact⟨J,d,w.symm,x.symm⟩
   .exact⟨A,a,rfl,rfl⟩
  rcases h.now i I R X g with ⟨o,p,q⟩|⟨n,A,B,o,p,q,C,D,M⟩
  .refine .inl ⟨o,p,λn A a k=>?_⟩;obtain⟨c,r,t,v⟩:=b n A a;rw [<-v];exact q n c r (by rw [t];exact k)
  .have rest:∀(m:Nat) (A':PT),(ts.set j J')[m]? =some A'->A'.i=i->m≠n->A'.T.ended=true:=λm A' y k dG=>by
    obtain⟨c,r,t,v⟩:=b m A' y;rw [<-v];exact M m c r (by rw [t];exact k) dG
   by_cases e:n=j
   .subst e;obtain rfl:A=J:=Option.some.inj (o.symm.trans d);obtain rfl:B=K:=Option.some.inj (p.symm.trans f);exact .inr ⟨n,J',K',List.getElem?_set_self ((mG.1 d).1),List.getElem?_set_self ((mG.1 f).1),by rw [w];exact q,by rw [O];exact C,by rw [x];exact D,rest⟩
   .exact .inr ⟨n,A,B,by rw [List.getElem?_set_ne (λh=>e h.symm)];exact o,by rw [List.getElem?_set_ne (λh=>e h.symm)];exact p,q,C,D,rest⟩
 .obtain⟨n,Y⟩:=List.mem_iff_getElem?.1 l;rcases dg f Y with ⟨_,rfl⟩|⟨L,z⟩
  .have:=h.ct i R K g (gu f) (by rw [<-E];exact k) (by rw [W,<-x,<-F];exact G);omega
  .have:=h.ct i R B g (gu z) k G;omega
theorem PW.K9 (h:PW w F P p s S c ss ts) (b:ss[J.i]? =some I) (d:ts[j]? =some J) (nK:w'.heap[J.t]? =some (.cells (zK I.q J.n T') 98 (0,0))) (nc:Ch w' J.n T'.puts) (oZ:∀x∈T'.puts,x.1<I.G.y.blocks) (e:aa (λg=>g=J.t\/g=J.n) w w'):PW w' F P p s S c ss (ts.set j {J with T:=T'}):=by
 have:=h.on b d rfl rfl (λg a=> .inl a) ((h.EF b).aaL (h.K6 d b) e) nK nc oZ (e.mono (λg a=>by rcases a with a|a;exact .inr (.inr (.inr (.inr (.inl a))));exact .inr (.inr (.inr (.inr (.inr a))))));rwa [mD b] at this
end
end
section
theorem fV {f:α->Value} {l:List α} {a b:α} (c:l[i]? =some a) (h:f b=f a):(l.set i b).map f=l.map f:=by
 rw [List.map_set];apply List.ext_getElem?;intro n;by_cases e:n=i
 .subst e;rw [List.getElem?_set_self (by simpa using ((mG.1 c).1)),Bd,c,h];rfl
 .rw [List.getElem?_set_ne (λh=>e h.symm)]
theorem RW.K9 {w w':World} {F X X':Nat->Prop} {r s:Nat} {S:DS} {rs:List RI} {us:List RJ} {R:RI} {K K':RJ} (h:RW w F X r s S rs us) (l:rs[K.i]? =some R) (o:us[j]? =some K) (E:K'.u=K.u) (t:K'.i=K.i) (z:∀g,X g->X' g) (m:∀g,X' g->more X w w' g) (nK:nT w' X' R.k K'.u R.G K'.T K'.tv K'.us) (n:K'.tv.ownBlock=K.tv.ownBlock\/∀g,K'.tv.ownBlock=some g->w.heap.size<=g) (v:aa (λg=>g=K.u\/K.tv.ownBlock=some g) w w') (bm:∀g,X' g->g<w'.heap.size):RW w' F X' r s S rs (us.set j K'):=by
 have f:=h.jI l;have d:=h.oV o l;have BQ:∀g,X' g->¬F g:=λg b a=>by
  rcases m g b with y|y
  .exact h.fD g y a
  .have:=h.e.lt g a;omega
 have bt:iz w' F X' r s S R.k R.kl R.G R.pv R.ps R.hm R.nv:=by
  refine f.other v z BQ bm (λa=>?_) (λa=>?_) (λg e a=>?_) (λg c H b A a=>?_) (.inl rfl)
  .rcases a with a|a
   .exact cU f.st d.tx (by decide) a
   .exact d.pl.ne a f.st (by decide) rfl
  .rcases a with a|a
   .exact cU f.lp d.tx (by decide) a
   .exact d.pl.ne a f.lp (by decide) rfl
  .rcases a with a|a
   .exact f.pl.ne e d.tx (by decide) a
   .exact h.r3 R (gu l) K (gu o) g e a
  .have DA:=A;obtain⟨cur,C,_⟩:=DA;rcases a with a|a
   .exact A.ne d.tx (by decide) a
   .exact d.pl.ne a C (by decide) rfl
 have D:=h.e.au v (λg b a=>by
  rcases a with a|a
  .exact h.fD g (a▸d.xt) b
  .exact h.fD g (d.pl.row g a) b)
 have:=h.on (I':=R) (J':=K') l o rfl rfl rfl rfl E t D z m bt nK (.inl rfl) n (λg x p=>by
  rcases n with q|q
  .rw [q] at p;exact h.r3 R (gu l) K (gu o) g x p
  .have:=q g p;have:=f.pl.rlt g x;omega) (v.mono (λg b=>by rcases b with b|b;exact .inr (.inr (.inr (.inl b)));exact .inr (.inr (.inr (.inr (.inr b)))))) (.inl rfl)
 rwa [mD l] at this
section
variable {w w':World} {q:Nat} {F P F2 X O A:Nat->Prop} {p r s c N:Nat} {S:DS} {v1 v2 v3 v4:Value} {ss:List PI} {ts:List PT} {rs:List RI} {us:List RJ}
end
end
section
section
variable {s N M i j:Nat} {S S':DS} {ss:List PI} {ts:List PT} {rs:List RI} {us:List RJ} {I I':PI} {R R':RI} {J J':PT} {K K':RJ}
theorem Lk.upd (h:Lk S s N ss ts rs us) (Q:ss[i]? =some I) (r:rs[i]? =some R) (f:ts[j]? =some J) (U:us[j]? =some K) (Pw:J.i=i) (e1:J'.i=J.i) (e2:K'.i=K.i) (e3:K'.u=K.u) (e4:K'.T=J'.T) (e5:R'.G=I'.G) (e6:R'.nv=R.nv)
    (mO:(J'.T.ended=J.T.ended/\I'.G.busy=I.G.busy)\/(J.T.ended=false/\J'.T.ended=true/\I'.G.busy=false)) (hM:N<=M) (W:V.Inv S' s ((ss.set i I').map (λI=>I.G.L)) M) (nY:R'.ps.length<=M) (VD:J'.T.ended=false->R'.ps.length+K'.us.length<=M) (Dt:R'.ps=R.ps\/J.T.ended=false) (EG:S'.refused=S.refused):
  Lk S' s M (ss.set i I') (ts.set j J') (rs.set i R') (us.set j K'):=by
 have uG:=(mG.1 Q).1;have rE:=(mG.1 r).1;obtain⟨g1,g2⟩:=h.tg j J K f U;have O:∀(n:Nat) (A:PT),(ts.set j J')[n]? =some A->n≠j->ts[n]? =some A:=λn A d dG=>by
  rcases dg f d with ⟨e,_⟩|⟨_,d⟩
  .exact absurd e dG
  .exact d
 refine⟨by rw [List.length_set,List.length_set];exact h.sl,λn A B d c=>?_,by rw [List.length_set,List.length_set];exact h.tl,λn A B d c=>?_,W,λn A B d c=>?_,λB c=>?_,λn B C c k a Z=>?_,EG.trans h.rf⟩
 .rcases dg Q d with ⟨E,rfl⟩|⟨z,d⟩<;> rcases dg r c with ⟨P,rfl⟩|⟨v,c⟩
  .exact e5
  .exact absurd E v
  .exact absurd P z
  .exact h.sg n A B d c
 .rcases dg f d with ⟨E,rfl⟩|⟨z,d⟩<;> rcases dg U c with ⟨P,rfl⟩|⟨v,c⟩
  .exact⟨by rw [e2,e1,g1],e4⟩
  .exact absurd E v
  .exact absurd P z
  .exact h.tg n A B d c
 .rcases dg Q d with ⟨E,rfl⟩|⟨z,hA'⟩<;> rcases dg r c with ⟨P,rfl⟩|⟨v,x⟩
  .subst E;rcases h.now n I R Q r with ⟨p,q,b⟩|⟨m,C,D,p,q,b,F,H,t⟩
   .have l:=b j J f Pw;rcases mO with ⟨g,w⟩|⟨g,_,_⟩
    .refine .inl ⟨e6.trans p,w.trans q,λm C k a=>?_⟩;rcases dg f k with ⟨_,rfl⟩|⟨_,k⟩
     .rw [g];exact l
     .exact b m C k a
    .rw [l] at g;cases g
   .by_cases e:m=j
    .subst e;obtain rfl:C=J:=Option.some.inj (p.symm.trans f);obtain rfl:D=K:=Option.some.inj (q.symm.trans U);refine .inr ⟨m,J',K',List.getElem?_set_self ((mG.1 f).1),List.getElem?_set_self ((mG.1 U).1),by rw [e1];exact b,by rw [e6,e3];exact F,?_,λy A' La a dG=>t y A' (O y A' La dG) a dG⟩;rcases mO with ⟨g,w⟩|⟨_,w,b3⟩
     .rw [g,w];exact H
     .rw [w,b3];rfl
    .have l:=t j J f Pw (λh=>e h.symm);rcases mO with ⟨g,w⟩|⟨g,_,_⟩
     .refine .inr ⟨m,C,D,by rw [List.getElem?_set_ne (λh=>e h.symm)];exact p,by rw [List.getElem?_set_ne (λh=>e h.symm)];exact q,b,e6.trans F,by rw [w];exact H,λy A' La a dG=>?_⟩;rcases dg f La with ⟨_,rfl⟩|⟨_,La⟩
      .rw [g];exact l
      .exact t y A' La a dG
     .rw [l] at g;cases g
  .exact absurd E v
  .exact absurd P z
  .have Y:∀(m:Nat) (C:PT),(ts.set j J')[m]? =some C->C.i=n->ts[m]? =some C:=λm C k a=>by
    rcases dg f k with ⟨_,rfl⟩|⟨_,k⟩
    .rw [e1,Pw] at a;exact absurd a.symm z
    .exact k
   rcases h.now n A B hA' x with ⟨p,q,b⟩|⟨m,C,D,p,q,b,F,H,t⟩
   .exact .inl ⟨p,q,λm C k a=>b m C (Y m C k a) a⟩
   .have dG:m≠j:=λe=>by
     subst e;obtain rfl:C=J:=Option.some.inj (p.symm.trans f);rw [Pw] at b;exact z b.symm
    exact .inr ⟨m,C,D,by rw [List.getElem?_set_ne (λh=>dG h.symm)];exact p,by rw [List.getElem?_set_ne (λh=>dG h.symm)];exact q,b,F,H,λy A' La a X=>t y A' (Y y A' La a) a X⟩
 .obtain⟨n,X⟩:=List.mem_iff_getElem?.1 c;rcases dg r X with ⟨_,rfl⟩|⟨_,X⟩
  .exact nY
  .have:=h.cs B (gu X);omega
 .obtain⟨m,hm⟩:=List.mem_iff_getElem?.1 k;rcases dg U hm with ⟨ek,rfl⟩|⟨nk,hm'⟩
  .rcases dg r c with ⟨_,rfl⟩|⟨v,_⟩
   .exact VD (by rw [<-e4];exact Z)
   .rw [e2,g1,Pw] at a;exact absurd a.symm v
  .rcases dg r c with ⟨rfl,rfl⟩|⟨v,x⟩
   .rcases Dt with Dt|Dt
    .have:=h.ct n R C r (gu hm') a Z;rw [Dt];omega
    .exfalso;have AY:m<ts.length:=(by rw [<-h.tl];exact(mG.1 hm').1);have hD:=List.getElem?_eq_getElem AY;obtain⟨f1,f2⟩:=h.tg m _ C hD hm';have hDe:ts[m].T.ended=false:=(by rw [<-f2];exact Z);have hDi:ts[m].i=n:=(by rw [<-f1];exact a);rcases h.now n I R Q r with ⟨_,_,b⟩|⟨o,A,B,p,q,b,F,H,t⟩
     .have:=b j J f Pw;rw [Dt] at this;cases this
     .by_cases eo:o=j
      .subst eo;have:=t m _ hD hDi nk;rw [hDe] at this;cases this
      .have:=t j J f Pw (λh=>eo h.symm);rw [Dt] at this;cases this
   .have:=h.ct n B C x (gu hm') a Z;omega
end
end
section
theorem RW.reG {w:World} {F X:Nat->Prop} {r s:Nat} {S:DS} {rs:List RI} {us:List RJ} {R:RI} (h:RW w F X r s S rs us) (m:rs[i]? =some R) (p:G'.y=R.G.y) (t:G'.L=R.G.L) (H:G'.ov=R.G.ov):RW w F X r s S (rs.set i {R with G:=G'}) us:=by
 have d:=h.jI m;have o:∀{n:Nat} {A:RI},(rs.set i {R with G:=G'})[n]? =some A->∃q,rs[n]? =some q/\q.pv=A.pv:=λ{n A} j=>by
  rcases dg m j with ⟨rfl,rfl⟩|⟨_,j⟩
  .exact⟨R,m,rfl⟩
  .exact⟨A,j,rfl⟩
 refine⟨h.e,h.fD,h.lt,λA D=>?_,λK O=>?_,by rw [mU (f:=λx:RI=>x.k) (b:={R with G:=G'}) m rfl];exact h.nk,by rw [mU (f:=λx:RI=>x.kl) (b:={R with G:=G'}) m rfl];exact h.nl,h.nu,λa b A B P Q oz g z C=>?_,h.r2,λA D B N g z C=>?_⟩
 .obtain⟨n,j⟩:=List.mem_iff_getElem?.1 D;rcases dg m j with ⟨_,rfl⟩|⟨_,j⟩
  .exact⟨by show kX _ _ _ _ G'.y _ _ _;rw [p];exact d.st,by show cH _ _ _ G'.L;rw [t];exact d.lp,d.pl,d.xk,d.xl,d.fD,d.lt,by show G'.L.Ok s;rw [t];exact d.lk,by show G'.L.begun=true;rw [t];exact d.bg,by show G'.y.home+G'.y.blocks<=s;rw [p];exact d.hs,by show G'.L.f+2+G'.L.n<=G'.y.home;rw [t,p];exact d.lh,by show G'.ov=_;rw [H];exact d.ov,d.hm,by show∀x∈R.ps,x.1<G'.y.blocks;rw [p];exact d.kb,by show G'.L.dead S=false->∀b,b<G'.y.blocks->CM.get G'.ov b=none->∀c,fnd R.ps b=some c->S.now (G'.y.home+b)=c;rw [t,p,H];exact d.un⟩
  .exact h.jI j
 .obtain⟨M,E,l⟩:=h.tx K O;by_cases e:K.i=i
  .rw [e,m] at E;cases E;exact⟨{R with G:=G'},by rw [e];exact List.getElem?_set_self ((mG.1 m).1),⟨l.tx,l.xt,l.pl,l.nd,l.pu,by show∀x∈K.us,x.1<G'.y.blocks;rw [p];exact l.kb,l.D6⟩⟩
  .exact⟨M,by rw [List.getElem?_set_ne (λh=>e h.symm)];exact E,l⟩
 .obtain⟨q,u,v⟩:=o P;obtain⟨T,I,J⟩:=o Q;exact h.r1 _ _ _ _ u I oz g (v▸z) (J▸C)
 .obtain⟨n,j⟩:=List.mem_iff_getElem?.1 D;obtain⟨q,u,v⟩:=o j;exact h.r3 q (gu u) B N g (v▸z) C
section
variable {w w':World} {q:Nat} {F P F2 X O A:Nat->Prop} {p r s c N:Nat} {S:DS} {v1 v2 v3 v4:Value} {ss:List PI} {ts:List PT} {rs:List RI} {us:List RJ}
end
end
section
section
variable {w w':World} {q:Nat} {F P F2 X O A:Nat->Prop} {p r s c N:Nat} {S:DS} {v1 v2 v3 v4:Value} {ss:List PI} {ts:List PT} {rs:List RI} {us:List RJ}
theorem AC (h:W5 w q F P F2 X O p r s S S c v1 v2 v3 v4 ss ts rs us) (Q:Lk S s N ss ts rs us) (_hA:∀g,(F g\/P g\/F2 g\/X g\/O g)->A g) (mc:∀g,A g->g<w.heap.size) (h1:ss.length<=N) (Z:ts.length<=N) (_hc:c<=5000*N) (hN:N<=3999999990000) (b f n:Int) (t:Option Addr) (v u:Nat) (H:Option Addr) (K J:Nat) (x y z:Int) (AD:b<=9223372036854775807):
  Calls prog 31 #[pV q, .agg (iO 12 b f n t v u H K J x y z)] w λe w'=>e= .returned (.bool true)/\bW w w':=by
 obtain⟨W,d⟩:=bQ (w.alloc (.cells (iO 12 b f n t v u H K J x y z) 41));have EB:bW w W:=by rw [d];exact(bi w.heap.size w).alloc (bP _) _
 have BP:W.heap[w.heap.size]? =some (.cells (iO 12 b f n t v u H K J x y z) 41 (0,0)):=by rw [d];exact heap_alloc_new _ _
 have Hv:W.heap.size=w.heap.size+1:=by rw [d,World.size_alloc]
 have tW:¬A w.heap.size:=λhx=>by have:=mc _ hx;omega
 obtain⟨a3,c3,E⟩:=AB h.o1;have To:=h.later EB;have d0:W.cell? (aD w.heap.size 0)=some (iV 12):=aL BP;have d1:W.cell? (aD w.heap.size 1)=some (iV b):=bD BP;have l:=To.c2;have sd:=λk=>Az (W.drewN k) ss.length b AD (by omega);obtain⟨L,o,CQ,Mp⟩:=cM To Q EB BP;rw [E] at l;clear h Q To EB BP;go_in;go_wp2_with fail;rw [<-d];clear d;go_quiet (first|(go_at_call 73;refine Calls.quiet_of_same (sd _)));rename_i nq _;have m:bW W (W.drewN nq):=below_drewN (bi _ _) nq;have fH:=(L.later m);have ux:=(CQ.trans (m.mono (by omega)));have X3:(W.drewN nq).heap.size=w.heap.size+1:=Hv;have Uu:=((m.block w.heap.size (by omega)).trans Mp);clear L CQ Mp sd m d0 d1 l Hv;generalize W.drewN nq=V at*;have dV0:V.cell? (aD w.heap.size 0)=some (iV 12):=aL Uu;have dV2:V.cell? (aD w.heap.size 2)=some (iV f):=bH Uu;have l:=fH.c2;have e5:=fH.c3;by_cases T:ss.length=0
 .have fo:bk ss.length b= -1:=by unfold bk;rw [aE T]
  rw [fo];go_wp2;go_ret;exact⟨rfl,ux⟩
 .obtain⟨j,M,Yd⟩:=Tn (show 0<ss.length by omega) b;rw [Yd];have YQ:¬(j:Int)<0:=by omega
  have Yt:(j:Int)<(ss.length:Int):=by omega
  obtain⟨I,C⟩:∃I,ss[j]? =some I:=⟨ss[j],List.getElem?_eq_getElem M⟩;obtain⟨R,D⟩:∃R,rs[j]? =some R:=⟨rs[j]'(by rw [o.sl];exact M),List.getElem?_eq_getElem _⟩;obtain⟨g3,cp3,Tp,t3⟩:=vC (i:=j) fH.o1 (by rw [Bd,C];rfl);obtain⟨g4,cp4,Tq,t4⟩:=vC (i:=j) fH.o2 (by rw [Bd,D];rfl);rw [Tp] at l;rw [Tq,o.sl] at e5;clear Yd T;have Om:=(λ(a:World) (hb:bW V a)=>((fH.later hb).rw.jI D).st);go_wp2_with fail;refine(Kz (fH.pw.EF C).st).mono ?_;rintro e a ⟨rfl,aW⟩;have bo:=Om a aW;rw [(o.sg j I R C D)] at bo;have lj:=aI a (.cells #[.int .i64 (I.G.y.log:Int), .int .i64 (I.G.y.home:Int), .int .i64 (I.G.y.blocks:Int), .int .i64 (I.G.y.nodes:Int), .int .i64 (I.G.y.data:Int)] 86);have LV:=heap_alloc_new a (.cells #[.int .i64 (I.G.y.log:Int), .int .i64 (I.G.y.home:Int), .int .i64 (I.G.y.blocks:Int), .int .i64 (I.G.y.nodes:Int), .int .i64 (I.G.y.data:Int)] 86);have fB:=bo.later lj;have dE:=(aW.trans (lj.mono aW.size));clear aW bo;go_wp2_with fail;generalize a.alloc (.cells #[.int .i64 (I.G.y.log:Int), .int .i64 (I.G.y.home:Int), .int .i64 (I.G.y.blocks:Int), .int .i64 (I.G.y.nodes:Int), .int .i64 (I.G.y.data:Int)] 86)=Y at*;have U:((λw':World=>w'.cell? (aD a.heap.size 0)=some (iV (I.G.y.log:Int))/\w'.cell? (aD a.heap.size 1)=some (iV (I.G.y.home:Int))/\w'.cell? (aD a.heap.size 2)=some (iV (I.G.y.blocks:Int))/\w'.cell? (aD a.heap.size 3)=some (iV (I.G.y.nodes:Int))/\w'.cell? (aD a.heap.size 4)=some (iV (I.G.y.data:Int))/\w'.cell? (aD R.k 2)=some (iV (I.G.y.log:Int))/\w'.cell? (aD R.k 3)=some (iV (I.G.y.home:Int))/\w'.cell? (aD R.k 4)=some (iV (I.G.y.blocks:Int))/\w'.cell? (aD R.k 5)=some (iV (I.G.y.nodes:Int))/\w'.cell? (aD R.k 6)=some (iV (I.G.y.data:Int))) Y):=⟨aL LV,bD LV,bH LV,fI LV,gz LV,fB.c2,fB.c3,fB.c4,fB.c5,fB.c6⟩;clear fB lj LV;go_region_held3 (λw'=>w'.cell? (aD a.heap.size 0)=some (iV (I.G.y.log:Int))/\w'.cell? (aD a.heap.size 1)=some (iV (I.G.y.home:Int))/\w'.cell? (aD a.heap.size 2)=some (iV (I.G.y.blocks:Int))/\w'.cell? (aD a.heap.size 3)=some (iV (I.G.y.nodes:Int))/\w'.cell? (aD a.heap.size 4)=some (iV (I.G.y.data:Int))/\w'.cell? (aD R.k 2)=some (iV (I.G.y.log:Int))/\w'.cell? (aD R.k 3)=some (iV (I.G.y.home:Int))/\w'.cell? (aD R.k 4)=some (iV (I.G.y.blocks:Int))/\w'.cell? (aD R.k 5)=some (iV (I.G.y.nodes:Int))/\w'.cell? (aD R.k 6)=some (iV (I.G.y.data:Int))) (exact U) (fail);go_wp2;go_ret;exact⟨by simp,ux.trans (dE.drew.mono ux.size)⟩
end
end
section
theorem OS {S:DS} {s:Nat} (dh:S.Ok s) (L M:LG) (h:M.dead (L.sync S s).2=false):M.dead S=false/\∀j,j<s->(L.sync S s).2.now j=S.now j:=by
 unfold LG.sync at*;split at h
 .rename_i q;rw [aE q];exact⟨h,λ_ _=>rfl⟩
 .rename_i q;rw [aA q];refine⟨?_,λj b=>eU dh b⟩;have a:=V.jE h;rw [fO] at a;unfold LG.dead;simp [(V.jE (V.j2 (Decidable.of_not_not q)).1).2,a.1]
theorem Lk.Tr {S S':DS} {s N:Nat} {b:List PI} {d:List PT} {rs:List RI} {us:List RJ} (h:Lk S s N b d rs us) (c:N<=M) (a:V.Inv S' s (b.map (λI=>I.G.L)) M) (EG:S'.refused=S.refused):Lk S' s M b d rs us:=⟨h.sl,h.sg,h.tl,h.tg,a,h.now,λR k=>jQ (h.cs R k) c,λi R K e f g j=>jQ (h.ct i R K e f g j) c,EG.trans h.rf⟩
theorem Lk.synced {S:DS} {s N:Nat} {a:List PI} {c:List PT} {rs:List RI} {us:List RJ} {I:PI} (h:Lk S s N a c rs us) (d:a[j]? =some I):Lk (I.G.L.sync S s).2 s (N+2) a c rs us:=by
 have b:(a.map (λI=>I.G.L))[j]? =some I.G.L:=by rw [Bd,d];rfl
 have:=h.inv.sync b;rw [mD b] at this;exact h.Tr (by omega) (this.more (by omega)) (EE _ _ _)
section
variable {w w':World} {q:Nat} {F P F2 X O A:Nat->Prop} {p r s c N:Nat} {S:DS} {v1 v2 v3 v4:Value} {ss:List PI} {ts:List PT} {rs:List RI} {us:List RJ}
end
end
section
theorem AE {S:DS} {s:Nat} (dh:S.Ok s) (d:∀q∈G.ov,G.y.home+q.1<s/\q.2.length=512):(G.check S s).2.1.life=S.life:=by
 obtain⟨c,a,_⟩:=qd (L:=G.L) dh;obtain⟨_,b,_,_,_⟩:=ev (h0:=G.y.home) (ms:=G.ov) c d;have On:=CX G.L (sbring (G.L.sync S s).2 s G.y.home G.ov).2 s;unfold SG.check;split
 .exact a
 .split
  .exact b.trans a
  .split
   .exact On.1.trans (b.trans a)
   .exact On.1.trans (b.trans a)
theorem AF (G:SG) (S:DS) (s:Nat):(G.check S s).2.2.busy=G.busy:=by
 unfold SG.check;split
 .rfl
 .split
  .rfl
  .split <;> rfl
theorem Is {S:DS} {s t i:Nat} (h:V.Inv S s ls t) (g:ls[i]? =some G.L) (d:∀q∈G.ov,G.y.home+q.1<s/\q.2.length=512):(G.check S s).2.1=S\/∀n M,ls[n]? =some M->n≠i->M.dead (G.check S s).2.1=true:=by
 by_cases b:G.L.bd S=0
 .refine .inr (λn M a dG=>?_);obtain⟨hd,_⟩:=V.j2 b;obtain⟨f,_⟩:=V.jE hd;cases j:M.dead (G.check S s).2.1
  .have c:=(V.jE j).1;rw [AE h.ok d] at c;exact absurd (V.pP h.li g a (c.trans f.symm)) dG
  .rfl
 .refine .inl ?_;have e:G.L.sync S s=(G.L.bd S,S):=by unfold LG.sync;rw [aE b]
  unfold SG.check;rw [e,aE b]
section
variable {s N M i:Nat} {S S':DS} {ss:List PI} {ts:List PT} {rs:List RI} {us:List RJ} {I I':PI} {R R':RI}
theorem Lk.akE (h:Lk S s N ss ts rs us) (j:ss[i]? =some I) (c:rs[i]? =some R) (t:R'.G=I'.G) (u:R'.nv=R.nv) (v:I'.G.busy=I.G.busy) (o:R'.ps=R.ps) (f:N<=M) (e:V.Inv S' s ((ss.set i I').map (λI=>I.G.L)) M) (EG:S'.refused=S.refused):Lk S' s M (ss.set i I') ts (rs.set i R') us:=by
 refine⟨by rw [List.length_set,List.length_set];exact h.sl,λn A B b a=>?_,h.tl,h.tg,e,λn A B b a=>?_,λB a=>?_,λn B C a p r q=>?_,EG.trans h.rf⟩
 .rcases dg j b with ⟨d,rfl⟩|⟨l,b⟩<;> rcases dg c a with ⟨g,rfl⟩|⟨m,a⟩
  .exact t
  .exact absurd d m
  .exact absurd g l
  .exact h.sg n A B b a
 .rcases dg j b with ⟨d,rfl⟩|⟨l,b⟩<;> rcases dg c a with ⟨g,rfl⟩|⟨m,a⟩
  .rw [u,v,d];exact h.now i I R j c
  .exact absurd d m
  .exact absurd g l
  .exact h.now n A B b a
 .obtain⟨n,k⟩:=List.mem_iff_getElem?.1 a;rcases dg c k with ⟨_,rfl⟩|⟨_,k⟩
  .rw [o];exact jQ (h.cs R (gu c)) f
  .exact jQ (h.cs B (gu k)) f
 .rcases dg c a with ⟨d,rfl⟩|⟨_,a⟩
  .rw [o];exact jQ (h.ct i R C c p (r.trans d) q) f
  .exact jQ (h.ct n B C a p r q) f
end
theorem C6 {S:DS} (h:L.bd S=0):L.dead S=false/\L.begun=true:=V.j2 h
theorem Lb {S:DS} (h:L.dead S=false):L.life=S.life/\S.fuse≠0:=V.jE h
section
variable {w w':World} {q:Nat} {F P F2 X O A:Nat->Prop} {p r s c N:Nat} {S:DS} {v1 v2 v3 v4:Value} {ss:List PI} {ts:List PT} {rs:List RI} {us:List RJ}
end
end
section
theorem It {S:DS} {s:Nat} (a:L.Ok s):(L.append S s d).2.1.life=S.life:=by
 have c:=a.n1;obtain⟨b,_,_,_⟩:=mu (L:=L) (S:=S) (s:=s) (d:=d) (by omega) a.s (cY d.length);unfold LG.append;split
 .rfl
 .split <;> exact b
theorem Iu (G:SG) (S:DS) (s:Nat) (c:CM):(G.bF S s c).2.2.busy=G.busy:=by
 have a:(G.made S s (co c).length).2.2.busy=G.busy:=by
  unfold SG.made;split
  .rfl
  .exact AF G S s
 unfold SG.bF;split
 .rfl
 .split
  .exact a
  .split <;> exact a
section
variable {G:SG} {T:TG} {S:DS} {s t i:Nat} {ls:List LG} {c:CM}
theorem Iv (h:V.Inv S s ls t) (b:ls[i]? =some G.L) (g:G.L.begun=true) (a:∀q∈G.ov,G.y.home+q.1<s/\q.2.length=512/\Bytes q.2) (XS:G.ov.length<=2048) (BE:G.L.f+2+G.L.n<=G.y.home):(G.bF S s c).2.1.life=S.life:=by
 have d:V.Inv (G.made S s (co c).length).2.1 s (ls.set i (G.made S s (co c).length).2.2.L) t:=by
  unfold SG.made;split
  .exact h.same b
  .exact h.check b g a XS BE
 have AY:(G.made S s (co c).length).2.1.life=S.life:=by
  unfold SG.made;split
  .rfl
  .exact AE h.ok (λq e=>⟨(a q e).1,(a q e).2.1⟩)
 have dh:=(d.at (List.getElem?_set_self ((mG.1 b).1))).1;unfold SG.bF;split
 .rfl
 .split
  .exact AY
  .split <;> exact(It dh).trans AY
theorem BR (h:V.Inv S s ls t) (d:ls[i]? =some G.L) (l:G.L.begun=true) (j:∀q∈G.ov,G.y.home+q.1<s/\q.2.length=512/\Bytes q.2) (XS:G.ov.length<=2048) (BE:G.L.f+2+G.L.n<=G.y.home) (o:∀q∈T.puts,Bytes q.2) (k:T.state G S=0):
    (T.bF G S s).2.2.1.y=G.y/\V.Inv (T.bF G S s).2.1 s (ls.set i (T.bF G S s).2.2.1.L) t/\((T.bF G S s).2.1=S\/∀n M,ls[n]? =some M->n≠i->M.dead (T.bF G S s).2.1=true)/\T.ended=false/\
     (((T.bF G S s).2.2.2=T/\(T.bF G S s).2.2.1.busy=G.busy)\/((T.bF G S s).2.2.2=T.close/\(T.bF G S s).2.2.1.busy=false)):=by
 have hd:=zY k;have a:T.ended=false:=by
  unfold TG.state TG.bX at k;cases a:T.ended
  .rfl
  .rw [hd,a] at k;simp at k
 obtain⟨m,_⟩:=V.jE hd;have b:=h.Wi (c:=T.news G S) d l j XS BE (λq p=>o q (GN p));have St:∀n M,ls[n]? =some M->n≠i->M.dead (G.bF S s (T.news G S)).2.1=true:=λn M e dG=>by
  cases r:M.dead (G.bF S s (T.news G S)).2.1
  .have g:=(V.jE r).1;rw [(Iv (c:=T.news G S) h d l j XS BE)] at g;exact absurd (V.pP h.li d e (g.trans m.symm)) dG
  .rfl
 unfold TG.bF;rw [aA (λh=>h k)];split
 .exact⟨rfl,h.same d, .inl rfl,a, .inr ⟨rfl,rfl⟩⟩
 .split
  .exact⟨zW _ _ _ _,b, .inr St,a, .inl ⟨rfl,Iu _ _ _ _⟩⟩
  .exact⟨zW _ _ _ _,b, .inr St,a, .inr ⟨rfl,rfl⟩⟩
end
section
variable {w w':World} {F X:Nat->Prop} {p r s cR q l m t n k kl hm:Nat} {S:DS} {G:SG} {T:TG} {pv nv tv:Value} {ps us:List (Nat×List Int)}
theorem OT (h:ig w F p s cR q l m S G) (b:mx w F q l m t n G T) (k:T.state G S≠0):
  Calls prog 88 #[pQ t] w λe w'=>e= .returned (iV (T.state G S))/\bW w w':=by
 have a:=nI h b;generalize T.state G S=E at*;have d:(E != 0)=true:=by rw [fT];exact k
 clear k h b;go_in;go_wp2_with fail;refine bE a λw1 aq=>?_;have c:=yh aq;clear a aq;go_wp2;go_ret;exact⟨rfl,c.o⟩
theorem Lc (hd:aB w F r s S) (h:iz w F X r s S k kl G pv ps hm nv) (b:nT w X k t G T tv us) (kk:T.state G S≠0):
  Calls prog 89 #[pQ t] w λe w'=>e= .returned (iV (T.state G S))/\bW w w':=by
 have a:=j5 hd h b.tx;generalize T.state G S=E at*;have d:(E != 0)=true:=by rw [fT];exact kk
 clear kk h b hd;go_in;go_wp2_with fail;refine bE a λw1 aq=>?_;have c:=yh aq;clear a aq;go_wp2;go_ret;exact⟨rfl,c.o⟩
end
end
section
theorem akF {W:World} {t:TypeId} (a:(prog.info? e).map (λi=>(i.zero,i.size,i.bytes))=some (some (.pointer none),1,8)) (f:prog.underlying t=some (.slice e)) (aY:W.ownsRow 0 e 1 v k vs) (x:Value) (j:x.oneCell'=true) (m:(k+1)*8<=140737488355328):
  ∃g cap w',(Builtin.append_ #[t,t] t #[v, .slice (some (aD W.heap.size 0)) 1 1]).run prog (W.alloc (.cells #[x] e))= .ok (.slice (some (aD g 0)) (k+1) cap) w'/\w'.ownsRow 0 e 1 (.slice (some (aD g 0)) (k+1) cap) (k+1) (vs ++ [x])/\(W.alloc (.cells #[x] e)).grownBy w' v.ownBlock/\(v.ownBlock=some g\/g=W.heap.size+1)/\g<w'.heap.size:=by
 obtain⟨l,d,gv,dr,ec⟩:=info_parts a;exact run_append_lies (P:=prog) (W.alloc (.cells #[x] e)) t t 0 e l (.pointer none) 1 8 f d gv dr ec rfl (by decide) v k vs (em aY (λg c=>by
   obtain⟨cur,b⟩:=bJ aY c;exact Below.heap_alloc _ _ _ (aw b))) (aD W.heap.size 0) 1 1 [x] rfl (World.news_of_block (cs:= #[x]) (t:=e) (fr:=(0,0)) (heap_alloc_new W _)) (by simpa using j) (by omega) (by unfold maxLen;omega) (by omega) (by simp) _ (by simp)
section
variable {w w2:World} {q:Nat} {F P F2 X O P' X':Nat->Prop} {p r s c:Nat} {S S2:DS} {v1 v2 v3 v4 u1 u2 u3 u4:Value} {ss Tm:List PI} {ts WG:List PT} {rs Ba:List RI} {us KB:List RJ}
theorem oP {b c:TypeId} {u:Value} {m:Nat} {o:List Value} {cs:Array Value} {z:Nat×Nat} (g:w.ownsRow 0 b 1 u n xs) (i:w.ownsRow 0 c 1 v m o) (j:w.heap[q]? =some (.cells cs f z)) (k:b≠c) (l:b≠f) (e:u.ownBlock=some x):¬(v.ownBlock=some x\/x=q):=λa=>by
 obtain⟨cur,d⟩:=bJ g e;rcases a with a|a
 .obtain⟨acI,B7⟩:=bJ i a;exact cU d B7 k rfl
 .exact cU d j l a
theorem W5.grow (h:W5 w q F P F2 X O p r s S S2 c v1 v2 v3 v4 ss ts rs us) {t:TypeId} (j:Nat) (A:(Tryz.prog.info? e).map (λi=>(i.zero,i.size,i.bytes))=some (some (.pointer none),1,8)) (G:Tryz.prog.underlying t=some (.slice e)) (y:w.ownsRow 0 e 1 v k vs) (z:∀g,v.ownBlock=some g->O g) (dG:e≠35) (l:Nat) (f:(k+1)*8<=140737488355328):
  ∃g a w1 w2,(Builtin.append_ #[t,t] t #[v, .slice (some (aD w.heap.size 0)) 1 1]).run Tryz.prog (w.alloc (.cells #[pV l] e))= .ok (.slice (some (aD g 0)) (k+1) a) w1/\w1.heap[q]? =some (.cells (Ut p r v1 v2 v3 v4) 35 (0,0))/\w2=w1.setCell ⟨q,j,none⟩ (.slice (some ⟨g,0,none⟩) (k+1) a)/\w2.heap[q]? =some (.cells ((Ut p r v1 v2 v3 v4).setIfInBounds j (.slice (some ⟨g,0,none⟩) (k+1) a)) 35 (0,0))/\w2.ownsRow 0 e 1 (.slice (some (aD g 0)) (k+1) a) (k+1) (vs ++ [pV l])/\(∀x,(Value.slice (some (aD g 0)) (k+1) a).ownBlock=some x->more O w w2 x)/\aa (λg=>v.ownBlock=some g\/g=q) w w2/\aa O w w2:=by
 obtain⟨g,a,w1,bC,o,d,ic,UF⟩:=akF A G y (pV l) rfl f;have lj:=aI w (.cells #[pV l] e);have ef:(w.alloc (.cells #[pV l] e)).heap.size=w.heap.size+1:=by simp
 have dr:w.heap.size+1<=w1.heap.size:=by have:=d.size;omega
 have eH:aa (λk=>v.ownBlock=some k) w w1:=by
  refine⟨d.os.trans lj.os,d.tape.trans lj.tape,d.output.trans lj.output,by omega,λk f E=>?_⟩;exact(d.block k (by omega) (λe=>E e.symm)).trans (lj.block k f)
 have m:∀k,v.ownBlock=some k->k≠q:=λk e=>by
  obtain⟨cur,C⟩:=bJ y e;exact cU C h.box dG
 have iA:=(eH.block q (h.oW q h.oq) (λe=>m q e rfl)).trans h.box;obtain⟨w2,dw⟩:=bQ (w1.setCell ⟨q,j,none⟩ (.slice (some ⟨g,0,none⟩) (k+1) a));have eF:aa (λk=>k=q) w1 w2:=by rw [dw];exact aJ (F:=λk=>k=q) w1 rfl j _
 have aX:aa (λk=>v.ownBlock=some k\/k=q) w w2:=(eH.mono (λ_ h=> .inl h)).trans eF (λj D=> .inl (.inr D));have ec:w2.heap.size=w1.heap.size:=by rw [dw];simp
 have n:g≠q:=by
  rcases ic with ic|ic
  .exact m g ic
  .have:=h.oW q h.oq;omega
 refine⟨g,a,w1,w2,bC,iA,dw,by rw [dw];exact heap_setCell_same _ _ j _ _ _ iA,em o (λx u=>?_),λx u=>?_,aX,aX.mono (λk f=>f.elim (z k) (λe=>e▸h.oq))⟩
 .have b:x=g:=by simpa [Value.ownBlock] using u.symm
  subst b;exact eF.block x UF n
 .have b:x=g:=by simpa [Value.ownBlock] using u.symm
  subst b;exact ic.elim (λe=> .inl (z x e)) (λe=> .inr ⟨by omega,by omega⟩)
theorem W5.mkP (h:W5 w q F P F2 X O p r s S S2 c v1 v2 v3 v4 ss ts rs us) (i:PW w F P' p s S c Tm WG) (f:∀g,P' g->¬(F2 g\/X g\/O g)) (EH:aa O w w2) (j:w2.heap[q]? =some (.cells (Ut p r u1 v2 u3 v4) 35 (0,0))) (l:w2.ownsRow 0 53 1 u1 Tm.length (Tm.map (λI=>pV I.q))) (v:∀g,u1.ownBlock=some g->more O w w2 g) (m:w2.ownsRow 0 110 1 v2 rs.length (rs.map (λI=>pV I.k))) (n:w2.ownsRow 0 56 1 u3 WG.length (WG.map (λJ=>pV J.t))) (x:∀g,u3.ownBlock=some g->more O w w2 g) (o:w2.ownsRow 0 122 1 v4 us.length (us.map (λJ=>pV J.u))):W5 w2 q F P' F2 X (more O w w2) p r s S S2 c u1 v2 u3 v4 Tm WG rs us:=by
 refine⟨j, .inl h.oq,λk a=>a.elim (λa=>iP (h.oW k a) EH.size) (λh=>h.2),i.au EH (λk a b=>h.oa k b (.inl a)) (λk a b=>f k a (.inr (.inr b))),h.rw.au EH (λk a b=>h.od k b (.inl a)) (λk a b=>h.od k b (.inr a)),l,v,m,λg e=> .inl (h.q2 g e),n,x,o,λg e=> .inl (h.q4 g e),λk a b=>?_,λk a b=>?_,λk a b=>?_⟩
 .rcases a with a|a
  .exact h.ad k (.inl a) b
  .exact f k a (b.elim .inl (λb=> .inr (.inl b)))
 .rcases a with a|a <;> rcases b with b|b
  .exact h.oa k a (.inl b)
  .exact f k b (.inr (.inr a))
  .have:=h.pw.d.lt k b;omega
  .have:=i.lt k b;omega
 .rcases a with a|a
  .exact h.od k a b
  .rcases b with b|b
   .have:=h.rw.e.lt k b;omega
   .have:=h.rw.lt k b;omega
theorem W5.mkD (h:W5 w q F P F2 X O p r s S S2 c v1 v2 v3 v4 ss ts rs us) (i:RW w F2 X' r s S2 Ba KB) (f:∀g,X' g->¬(F g\/P g\/O g)) (EH:aa O w w2) (j:w2.heap[q]? =some (.cells (Ut p r v1 u2 v3 u4) 35 (0,0))) (l:w2.ownsRow 0 53 1 v1 ss.length (ss.map (λI=>pV I.q))) (m:w2.ownsRow 0 110 1 u2 Ba.length (Ba.map (λI=>pV I.k))) (v:∀g,u2.ownBlock=some g->more O w w2 g) (n:w2.ownsRow 0 56 1 v3 ts.length (ts.map (λJ=>pV J.t))) (o:w2.ownsRow 0 122 1 u4 KB.length (KB.map (λJ=>pV J.u))) (x:∀g,u4.ownBlock=some g->more O w w2 g):W5 w2 q F P F2 X' (more O w w2) p r s S S2 c v1 u2 v3 u4 ss ts Ba KB:=by
 refine⟨j, .inl h.oq,λk b=>b.elim (λb=>iP (h.oW k b) EH.size) (λh=>h.2),h.pw.au EH (λk b a=>h.oa k a (.inl b)) (λk b a=>h.oa k a (.inr b)),i.au EH (λk b a=>h.od k a (.inl b)) (λk b a=>f k b (.inr (.inr a))),l,λg e=> .inl (h.q1 g e),m,v,n,λg e=> .inl (h.q3 g e),o,x,λk b a=>?_,λk b a=>?_,λk b a=>?_⟩
 .rcases a with a|a
  .exact h.ad k b (.inl a)
  .exact f k a (b.elim .inl (λb=> .inr (.inl b)))
 .rcases b with b|b
  .exact h.oa k b a
  .rcases a with a|a
   .have:=h.pw.d.lt k a;omega
   .have:=h.pw.lt k a;omega
 .rcases b with b|b <;> rcases a with a|a
  .exact h.od k b (.inl a)
  .exact f k a (.inr (.inr b))
  .have:=h.rw.e.lt k a;omega
  .have:=i.lt k a;omega
theorem W5.aff {E:PI} (h:W5 w q F P F2 X O p r s S S2 c v1 v2 v3 v4 ss ts rs us) (k:PW w F P' p s S c (ss ++ [E]) ts) (b:∀g,P' g->¬(F2 g\/X g\/O g)) (f:(ss.length+1)*8<=140737488355328):
  ∃g a w1,(Builtin.append_ #[30,30] 30 #[v1, .slice (some (aD w.heap.size 0)) 1 1]).run Tryz.prog (w.alloc (.cells #[pV E.q] 53))= .ok (.slice (some (aD g 0)) (ss.length+1) a) w1/\w1.heap[q]? =some (.cells (Ut p r v1 v2 v3 v4) 35 (0,0))/\
   W5 (w1.setCell ⟨q,2,none⟩ (.slice (some ⟨g,0,none⟩) (ss.length+1) a)) q F P' F2 X (more O w (w1.setCell ⟨q,2,none⟩ (.slice (some ⟨g,0,none⟩) (ss.length+1) a))) p r s S S2 c (.slice (some (aD g 0)) (ss.length+1) a) v2 v3 v4 (ss ++ [E]) ts rs us/\aa O w (w1.setCell ⟨q,2,none⟩ (.slice (some ⟨g,0,none⟩) (ss.length+1) a)):=by
 obtain⟨g,a,w1,l,bC,iA,dw,d,i,j,aX,EH⟩:=h.grow 2 (by kernel_rfl) Tryz.underlying30 h.o1 h.q1 (by decide) E.q f;refine⟨g,a,w1,bC,iA,?_⟩;rw [<-dw];exact⟨h.mkP k b EH (d.trans (by simp)) (by rw [dT,List.map_append];exact i) j (aC h.o2 (λx e=>aX.block x (h.oW x (h.q2 x e)) (oP h.o2 h.o1 h.box (by decide) (by decide) e))) (aC h.o3 (λx e=>aX.block x (h.oW x (h.q3 x e)) (oP h.o3 h.o1 h.box (by decide) (by decide) e))) (λg e=> .inl (h.q3 g e)) (aC h.o4 (λx e=>aX.block x (h.oW x (h.q4 x e)) (oP h.o4 h.o1 h.box (by decide) (by decide) e))),EH⟩
theorem W5.afg {E:RI} (h:W5 w q F P F2 X O p r s S S2 c v1 v2 v3 v4 ss ts rs us) (l:RW w F2 X' r s S2 (rs ++ [E]) us) (b:∀g,X' g->¬(F g\/P g\/O g)) (f:(rs.length+1)*8<=140737488355328):
  ∃g a w1,(Builtin.append_ #[31,31] 31 #[v2, .slice (some (aD w.heap.size 0)) 1 1]).run Tryz.prog (w.alloc (.cells #[pV E.k] 110))= .ok (.slice (some (aD g 0)) (rs.length+1) a) w1/\w1.heap[q]? =some (.cells (Ut p r v1 v2 v3 v4) 35 (0,0))/\
   W5 (w1.setCell ⟨q,3,none⟩ (.slice (some ⟨g,0,none⟩) (rs.length+1) a)) q F P F2 X' (more O w (w1.setCell ⟨q,3,none⟩ (.slice (some ⟨g,0,none⟩) (rs.length+1) a))) p r s S S2 c v1 (.slice (some (aD g 0)) (rs.length+1) a) v3 v4 ss ts (rs ++ [E]) us/\aa O w (w1.setCell ⟨q,3,none⟩ (.slice (some ⟨g,0,none⟩) (rs.length+1) a)):=by
 obtain⟨g,a,w1,m,bC,iA,dw,d,i,j,aX,EH⟩:=h.grow 3 (by kernel_rfl) Tryz.underlying31 h.o2 h.q2 (by decide) E.k f;refine⟨g,a,w1,bC,iA,?_⟩;rw [<-dw];exact⟨h.mkD l b EH (d.trans (by simp)) (aC h.o1 (λx e=>aX.block x (h.oW x (h.q1 x e)) (oP h.o1 h.o2 h.box (by decide) (by decide) e))) (by rw [dT,List.map_append];exact i) j (aC h.o3 (λx e=>aX.block x (h.oW x (h.q3 x e)) (oP h.o3 h.o2 h.box (by decide) (by decide) e))) (aC h.o4 (λx e=>aX.block x (h.oW x (h.q4 x e)) (oP h.o4 h.o2 h.box (by decide) (by decide) e))) (λg e=> .inl (h.q4 g e)),EH⟩
theorem W5.afh {E:PT} (h:W5 w q F P F2 X O p r s S S2 c v1 v2 v3 v4 ss ts rs us) (k:PW w F P' p s S c ss (ts ++ [E])) (b:∀g,P' g->¬(F2 g\/X g\/O g)) (f:(ts.length+1)*8<=140737488355328):
  ∃g a w1,(Builtin.append_ #[32,32] 32 #[v3, .slice (some (aD w.heap.size 0)) 1 1]).run Tryz.prog (w.alloc (.cells #[pV E.t] 56))= .ok (.slice (some (aD g 0)) (ts.length+1) a) w1/\w1.heap[q]? =some (.cells (Ut p r v1 v2 v3 v4) 35 (0,0))/\
   W5 (w1.setCell ⟨q,4,none⟩ (.slice (some ⟨g,0,none⟩) (ts.length+1) a)) q F P' F2 X (more O w (w1.setCell ⟨q,4,none⟩ (.slice (some ⟨g,0,none⟩) (ts.length+1) a))) p r s S S2 c v1 v2 (.slice (some (aD g 0)) (ts.length+1) a) v4 ss (ts ++ [E]) rs us/\aa O w (w1.setCell ⟨q,4,none⟩ (.slice (some ⟨g,0,none⟩) (ts.length+1) a)):=by
 obtain⟨g,a,w1,l,bC,iA,dw,d,i,j,aX,EH⟩:=h.grow 4 (by kernel_rfl) Tryz.underlying32 h.o3 h.q3 (by decide) E.t f;refine⟨g,a,w1,bC,iA,?_⟩;rw [<-dw];exact⟨h.mkP k b EH (d.trans (by simp)) (aC h.o1 (λx e=>aX.block x (h.oW x (h.q1 x e)) (oP h.o1 h.o3 h.box (by decide) (by decide) e))) (λg e=> .inl (h.q1 g e)) (aC h.o2 (λx e=>aX.block x (h.oW x (h.q2 x e)) (oP h.o2 h.o3 h.box (by decide) (by decide) e))) (by rw [dT,List.map_append];exact i) j (aC h.o4 (λx e=>aX.block x (h.oW x (h.q4 x e)) (oP h.o4 h.o3 h.box (by decide) (by decide) e))),EH⟩
theorem W5.afi {E:RJ} (h:W5 w q F P F2 X O p r s S S2 c v1 v2 v3 v4 ss ts rs us) (k:RW w F2 X' r s S2 rs (us ++ [E])) (b:∀g,X' g->¬(F g\/P g\/O g)) (f:(us.length+1)*8<=140737488355328):
  ∃g a w1,(Builtin.append_ #[33,33] 33 #[v4, .slice (some (aD w.heap.size 0)) 1 1]).run Tryz.prog (w.alloc (.cells #[pV E.u] 122))= .ok (.slice (some (aD g 0)) (us.length+1) a) w1/\w1.heap[q]? =some (.cells (Ut p r v1 v2 v3 v4) 35 (0,0))/\
   W5 (w1.setCell ⟨q,5,none⟩ (.slice (some ⟨g,0,none⟩) (us.length+1) a)) q F P F2 X' (more O w (w1.setCell ⟨q,5,none⟩ (.slice (some ⟨g,0,none⟩) (us.length+1) a))) p r s S S2 c v1 v2 v3 (.slice (some (aD g 0)) (us.length+1) a) ss ts rs (us ++ [E])/\aa O w (w1.setCell ⟨q,5,none⟩ (.slice (some ⟨g,0,none⟩) (us.length+1) a)):=by
 obtain⟨g,a,w1,l,bC,iA,dw,d,i,j,aX,EH⟩:=h.grow 5 (by kernel_rfl) Tryz.underlying33 h.o4 h.q4 (by decide) E.u f;refine⟨g,a,w1,bC,iA,?_⟩;rw [<-dw];exact⟨h.mkD k b EH (d.trans (by simp)) (aC h.o1 (λx e=>aX.block x (h.oW x (h.q1 x e)) (oP h.o1 h.o4 h.box (by decide) (by decide) e))) (aC h.o2 (λx e=>aX.block x (h.oW x (h.q2 x e)) (oP h.o2 h.o4 h.box (by decide) (by decide) e))) (λg e=> .inl (h.q2 g e)) (aC h.o3 (λx e=>aX.block x (h.oW x (h.q3 x e)) (oP h.o3 h.o4 h.box (by decide) (by decide) e))) (by rw [dT,List.map_append];exact i) j,EH⟩
end
theorem WH {β:Type} {f:α->β} {l:List α} {a b:α} (c:l[i]? =some a) (h:f b=f a):(l.set i b).map f=l.map f:=by
 rw [List.map_set];apply List.ext_getElem?;intro n;by_cases e:n=i
 .subst e;rw [List.getElem?_set_self (by simpa using ((mG.1 c).1)),Bd,c,h];rfl
 .rw [List.getElem?_set_ne (λh=>e h.symm)]
theorem mV {l:List α} {a x:α} (b:(l ++ [a])[n]? =some x):(n=l.length/\x=a)\/(n<l.length/\l[n]? =some x):=by
 by_cases e:n<l.length
 .rw [List.getElem?_append_left e] at b;exact .inr ⟨e,b⟩
 .have d:=(mG.1 b).1;have c:n=l.length:=by simp at d;omega
  subst c;rw [List.getElem?_append_right (bP _),Nat.sub_self] at b;exact .inl ⟨rfl,by simpa using b.symm⟩
theorem Ts {l:List α} {a x:α} (h:l[n]? =some x):(l ++ [a])[n]? =some x:=by
 rw [List.getElem?_append_left (mG.1 h).1];exact h
theorem MB (l:List α) (a:α):(l ++ [a])[l.length]? =some a:=by
 rw [List.getElem?_append_right (bP _),Nat.sub_self];rfl
theorem Lk.begun {S:DS} {s:Nat} {v:List PI} {z:List PT} {rs:List RI} {us:List RJ} {I:PI} {R:RI} {t:Nat} (h:Lk S s N v z rs us) (x:v[i]? =some I) (f:rs[i]? =some R) (U:I.G.busy=false):
  Lk S s N (v.set i {I with G:={I.G with busy:=true}}) (z ++ [⟨i,t,n,⟨[],0,false⟩⟩]) (rs.set i {R with G:={I.G with busy:=true},nv:=pV u}) (us ++ [⟨i,u,tv, [],⟨[],0,false⟩⟩]):=by
 have bR:∀(j:Nat) (J:PT),z[j]? =some J->J.i=i->J.T.ended=true:=λj J k g=>by
  rcases h.now i I R x f with ⟨_,_,o⟩|⟨r,J',K',l,_,o,_,E,F⟩
  .exact o j J k g
  .by_cases e:j=r
   .subst e;rw [k] at l;cases l;rw [E,U];rfl
   .exact F j J k g e
 refine⟨by rw [List.length_set,List.length_set];exact h.sl,λm A C c a=>?_,by rw [dT,dT,h.tl];rfl,λm A C c a=>?_,?_,λm A C c a=>?_,λC a=>?_,λm C K a p g O=>?_,h.rf⟩
 .rcases dg x c with ⟨d,rfl⟩|⟨q,c⟩<;> rcases dg f a with ⟨w,rfl⟩|⟨y,a⟩
  .rfl
  .exact absurd d y
  .exact absurd w q
  .exact h.sg m A C c a
 .have M:=h.tl;rcases mV c with ⟨d,rfl⟩|⟨q,c⟩<;> rcases mV a with ⟨w,rfl⟩|⟨y,a⟩
  .exact⟨rfl,rfl⟩
  .omega
  .omega
  .exact h.tg m A C c a
 .have M:(v.set i {I with G:={I.G with busy:=true}}).map (λI:PI=>I.G.L)=v.map (λI:PI=>I.G.L):=WH x rfl;rw [M];exact h.inv
 .rcases dg x c with ⟨d,rfl⟩|⟨q,c⟩<;> rcases dg f a with ⟨w,rfl⟩|⟨y,a⟩
  .refine .inr ⟨z.length,_,_,MB _ _,by rw [<-h.tl];exact MB _ _,d.symm,rfl,rfl,λr J' b nj dG=>?_⟩;rcases mV b with ⟨P,_⟩|⟨_,b⟩
   .exact absurd P dG
   .exact bR r J' b (nj.trans d)
  .exact absurd d y
  .exact absurd w q
  .rcases h.now m A C c a with ⟨l,D,o⟩|⟨j,J,K,l,D,o,Q,E,F⟩
   .refine .inl ⟨l,D,λj J k g=>?_⟩;rcases mV k with ⟨_,rfl⟩|⟨_,k⟩
    .exact absurd g.symm q
    .exact o j J k g
   .refine .inr ⟨j,J,K,Ts l,Ts D,o,Q,E,λr J' b nj dG=>?_⟩;rcases mV b with ⟨_,rfl⟩|⟨_,b⟩
    .exact absurd nj.symm q
    .exact F r J' b nj dG
 .obtain⟨m,H⟩:=List.mem_iff_getElem?.1 a;rcases dg f H with ⟨_,rfl⟩|⟨_,H⟩
  .exact h.cs R (gu f)
  .exact h.cs C (gu H)
 .rcases List.mem_append.1 p with p|p
  .rcases dg f a with ⟨d,rfl⟩|⟨_,a⟩
   .exact h.ct i R K f p (g.trans d) O
   .exact h.ct m C K a p g O
  .rw [List.mem_singleton.1 p];show C.ps.length+0<=N;rw [Nat.add_zero];rcases dg f a with ⟨d,rfl⟩|⟨_,a⟩
   .exact h.cs R (gu f)
   .exact h.cs C (gu a)
theorem W5.nowAt {w:World} {q:Nat} {F P F2 X O:Nat->Prop} {p r s c:Nat} {S d:DS} {v x y z:Value} {g Tm:List PI} {k:List PT} {rs:List RI} {us:List RJ} {I:PI} {R:RI} (h:W5 w q F P F2 X O p r s S d c v x y z Tm k rs us) (e:Lk d s N g k rs us) (n:g[i]? =some I) (o:rs[i]? =some R):XC w R.nv I.G.busy:=by
 rcases e.now i I R n o with ⟨b,a,_⟩|⟨j,J,K,b,a,A,l,m,_⟩
 .exact .inl ⟨b,a⟩
 .obtain⟨M,C,t⟩:=h.rw.tx K (gu a);have f:=t.tx;refine .inr ⟨K.u,l,f.lt,?_⟩;have:=bH f;rw [<-m,<-((e.tg j J K b a).2)];exact this
end
theorem B.afj (h:B.ax w F p s S c) (a:Int) (f:a<=9223372036854775807):Calls prog 26 #[pQ p,iV a] w λe w'=>e= .returned (.tuple #[])/\B.ax w' F p s (S.lay a) c/\aa F w w':=by
 obtain⟨r,h,g⟩:=h;refine(WY h a f).mono ?_;rintro e w' ⟨rfl,b,d⟩;exact⟨rfl,⟨r,by rw [<-Vb];exact b,g⟩,d⟩
theorem aaN {G:Nat->Prop} {r:Nat} {v1 v2 v3 v4:Value} (h:B.ax w F p s S c) (he:aB w G r s S) (E:∀k,F k->¬G k) (N:w.heap[q]? =some (.cells (Ut p r v1 v2 v3 v4) 35 (0,0))) (H:¬F q) (aT:S.puts.length+1<=4000000000000) (EG:S.refused=0) (hc:c<4611686018427387904):
  Calls prog 13 #[pV q] w λe w'=>e= .returned (.bool true)/\B.ax w' F p s S (c+s)/\aa F w w':=by
 obtain⟨ib,X⟩:=bL h.lt EG;clear EG;obtain⟨P,L,z,Mb,afk,Po,h1⟩:=nW (yh h) (yh he) (yh N) h.ok.hi (aw N) (yh h.ok) (B.JO h);have Y:w.cell? (aD q 0)=some (pV p):=aL N;obtain⟨M,BI⟩:∃M,M=(S.fuse == 0):=⟨_,rfl⟩;have akH:Yh (∀w',B.ax w' F p s S c->Calls prog 35 #[pQ p] w' λe Bh=>e= .returned (.bool M)/\Bh=w'):=λw' h=>by rw [BI];exact B.yU h
 have akI:Yh (∀w',aB w' G r s S->Calls prog 36 #[pQ r] w' λe Bh=>e= .returned (.bool M)/\Bh=w'):=λw' h=>by rw [BI];exact j3 h
 clear h he N BI;go_in;go_wp2_with fail;refine h1.mono ?_;rintro e w1 ⟨g1,cc1,rfl,o8,lG,aq⟩;have aaO:=(aq.block q afk).trans z.o;have Px:w1.cell? (aD q 0)=some (pV p):=aL aaO;have Iw:w1.cell? (aD q 1)=some (pV r):=bD aaO;have ed:=lG.src;rw [Po.o.len] at ed;obtain⟨oN,cN,aaP,dr⟩:=cM (yh ed) (yh aq) (yh (ai aq)) aq.size;clear h1 lG ed aq aaO Y;go_wp2_with fail;go_region_held3 (λw'=>w'.cell? (aD q 0)=some (pV p)/\w'.cell? (aD q 1)=some (pV r))
  (first|exact⟨Px,Iw⟩|exact⟨l,n⟩|exact⟨m,u⟩)
  (first
   |(go_at_call 34;refine(Kd (L.o.later aaP.o)).mono ?_;rintro e w2 ⟨g2,rq,rfl,fU,fb,aW⟩;have bo:=fb.src;rw [Po.o.len] at bo;have l:=cell_later aW Px;have n:=cell_later aW Iw)
   |(go_at_call 21;refine(pb (some (aD g1 0)) (some (aD g2 0)) (s*512) cc1 rq S.im w2 (by omega) (oN.o.later ((ai (bi w1.heap.size w1)).trans aW)) bo).mono ?_;rintro e w3 ⟨rfl,bz⟩;have m:=cell_later bz l;have u:=cell_later bz n;have fS:=yh (aaP.o.trans ((aW.mono dr).trans (bz.mono (jQ dr aW.size)))))
   |(go_at_call 35;refine(akH.o _ (P.o.later fS.o)).mono ?_;rintro e y ⟨rfl,tD⟩;have Ex:=tD.symm;clear tD;subst Ex)
   |(go_at_call 36;refine(akI.o _ (L.o.later fS.o)).mono ?_;rintro e w5 ⟨rfl,I3⟩;have Ld:=I3.symm;clear I3;subst Ld))
 have O:=yh m;have A:=yh u;have kO:=fS.o.size;clear bo fb aW bz Px Iw l n u;go_wp2_with fail;refine(B.qQ (P.o.later fS.o) (by omega) hc).mono ?_;rintro e y ⟨rr,rfl,_,_,fe⟩;have vS:=fe.size;have jB:Yh (bW w y):=fS.o.trans (fe.mono kO);have ff:=aI y (.cells (dL (rr:Int) S.writes S.flushes S.refused S.puts.length) 65);have Ju:=jB.o.trans (ff.mono (by omega));have c14:=cell_later ff (cell_later fe A.o);have QF:(y.alloc (.cells (dL (rr:Int) S.writes S.flushes S.refused S.puts.length) 65)).heap[y.heap.size]? =some (.cells (dL (rr:Int) S.writes S.flushes S.refused S.puts.length) 65 (0,0)):=heap_alloc_new _ _;obtain⟨aX,qE,jd,g⟩:=cM (J7 (L.o.later Ju)) ff.size (yh Ju) (yh QF);clear fe m ff Ju QF;go_wp2_with fail;refine bE aX λK ny=>?_;have Mf:=ny.size;have vU:=aI K (.cells (dL S.reads S.writes S.flushes S.refused S.puts.length) 65);have NR:=(vU.block y.heap.size (iP (aw g.o) Mf)).trans ((ny.block y.heap.size (aw g.o)).trans g.o);have a:(K.alloc (.cells (dL S.reads S.writes S.flushes S.refused S.puts.length) 65)).heap[K.heap.size]? =some (.cells (dL S.reads S.writes S.flushes S.refused S.puts.length) 65 (0,0)):=heap_alloc_new _ _;obtain⟨a1,a2,a3,a4,b1,b2,b3,b4,OU⟩:=UD (bD NR) (bH NR) ((fI NR).trans (congrArg (λt=>some (Value.int .i64 t)) X.o)) (gz NR) (bD a) (bH a) (fI a) (gz a) (jQ kO vS);have Fk:Yh (bW w (K.alloc (.cells (dL S.reads S.writes S.flushes S.refused S.puts.length) 65))):=jd.o.trans ((ny.mono (jQ OU qE)).trans (vU.mono (jQ OU (jQ qE Mf))));clear aX ny vU NR a c14 jB fS cN aaP oN O A;go_wp2;generalize K.alloc (.cells (dL S.reads S.writes S.flushes S.refused S.puts.length) 65)=w7 at*;clear a1 a2 a3 a4 b1 b2 b3 b4;have Z2:=Fk.o.size;go_loopw [6] (λi wr=>∃j:Nat,j<=s/\i=iV (j:Int)/\B.ax wr F p s S (c+j)/\aa F w7 wr) (λi _=>s-(intOf i).toNat);case atStart=>exact⟨0,dU _,rfl,(yh (P.o.later Fk.o)).out,aa.refl _ _⟩
 case round=>
  obtain⟨j,hj,rfl,hd,I⟩:=hrel;obtain⟨sH,CP⟩:=bL hd I;have f:=(I.block q (by omega) H).trans (yh ((Fk.o.block q afk).trans z.o)).out;have Y:wr.cell? (aD q 0)=some (pV p):=aL f;have c1:wr.cell? (aD q 1)=some (pV r):=bD f;have b:=(yh (L.o.later Fk.o)).out.au I (λk hg v=>E k v hg);obtain⟨ed,bo,Aa,R,W⟩:=ey (mv b) (j3 b) I.size (yh b) (yh f);clear hd I f b;by_cases bm:j<s
  .have cw:(j:Int)<(s:Int):=(by omega);go_wp2_with fail;refine bE ed λw8 Ye=>?_;have Tt:=Ye.symm;clear Ye;subst Tt;go_wp2_with fail;refine bE bo λw8 Ye=>?_;have Tt:=Ye.symm;clear Ye ed bo;subst Tt;by_cases v:S.fuse=0
   .have d:(S.fuse == 0)=true:=(by rw [v];rfl);have T:Yh (B.ax wr F p s S (c+s)/\aa F w wr):=⟨sH.o.le (by omega),(aa.ah F Fk.o).trans CP.o (λ_ h=> .inl h)⟩;go_wp2;go_ret;exact⟨rfl,T.o⟩
   .have d:(S.fuse == 0)=false:=(by rw [eG];exact v);go_wp2_with fail;refine(B.zC sH.o j bm aT v).mono ?_;rintro e w9 ⟨v9,rfl,ho9,ZU,A4⟩;obtain⟨a9,c9,rfl,x,_⟩:=ho9;have Yf:=br Po.o j bm;rw [Yf] at x⊢;have Iw:w9.cell? (aD q 1)=some (pV r):=bD ((A4.block q (by omega) H).trans W.o);have C:=jF (R.o.au A4 (λk hg v=>E k v hg)) j bm (by omega);have Q:=yh ZU;have U:Yh (aa F w7 w9):=CP.o.trans A4 (λ_ h=> .inl h);have hz9:=A4.size;clear ZU A4 Y c1;go_wp2_with fail;refine C.mono ?_;rintro e SV ⟨g10,Z,rfl,_,Dr,afm⟩;have afn:=afm.symm;clear afm;subst afn;have aaQ:=Dr.src;rw [Yf] at aaQ;have D:=pb a9 (some (aD g10 0)) 512 c9 Z (S.now j) w9 (by omega) x aaQ;clear C Dr x aaQ;go_wp2_with fail;refine bE D λJ aaR=>?_;have HZ:Yh (B.ax J F p s S (c+(j+1))/\aa F w7 J):=⟨Q.o.later aaR,U.o.trans (aa.ah F aaR) (λ_ h=> .inl h)⟩;clear D aaR;go_wp2;go_roundw;case rel=>exact⟨j+1,by omega,by go_num,HZ.o⟩
    case measure=>simp [intOf];omega
  .obtain rfl:j=s:=(by omega);have vQ:¬(j:Int)<(j:Int):=(by omega);have T:Yh (B.ax wr F p j S (c+j)/\aa F w wr):=⟨sH.o,(aa.ah F Fk.o).trans CP.o (λ_ h=> .inl h)⟩;go_wp2_with fail;refine bE ed λw8 Ye=>?_;have Tt:=Ye.symm;clear Ye;subst Tt;go_wp2;go_ret;exact⟨rfl,T.o⟩
section
theorem Le {S:DS} (h:G.begin S=0):G.busy=false:=by
 unfold SG.begin at h;split at h
 .exact absurd h (by decide)
 .split at h
  .exact absurd h (by decide)
  .rename_i q;simpa using q
theorem W5.under {w:World} {q:Nat} {F P F2 X O:Nat->Prop} {p r s c:Nat} {S b:DS} {j k l m:Value} {f:List PI} {i:List PT} {rs:List RI} {us:List RJ} (h:W5 w q F P F2 X O p r s S b c j k l m f i rs us) (g:Nat) (a:F g\/P g\/F2 g\/X g\/O g):g<w.heap.size:=by
 rcases a with a|a|a|a|a
 .exact h.pw.d.lt g a
 .exact h.pw.lt g a
 .exact h.rw.e.lt g a
 .exact h.rw.lt g a
 .exact h.oW g a
section
variable {w w':World} {q:Nat} {F P F2 X O A:Nat->Prop} {p r s c N:Nat} {S:DS} {v1 v2 v3 v4:Value} {ss:List PI} {ts:List PT} {rs:List RI} {us:List RJ}
end
end
section
section
variable {w w':World} {F:Nat->Prop} {p r s c:Nat} {S S':DS} {L:LG} {x:Int}
def OV (w:World) (F:Nat->Prop) (p s c:Nat) (S:DS) (e:Ending) (w':World):Prop:=∃x S' cR,cR<=c+261/\jP S s x S'/\aa F w w'/\((x≠0/\e= .returned (.tuple #[.pointer none,iV x])/\B.ax w' (more F w w') p s S' cR)\/(x=0/\∃q l m L F',sR S s L/\e= .returned (.tuple #[pQ q,iV 0])/\(∀k,F' k->more F w w' k)/\w.heap.size<=q/\w.heap.size<=l/\w.heap.size<=m/\ig w' F' p s cR q l m S' ⟨cz (S.now 0),L, [],false⟩))
theorem AG (h:B.ax w F p s S c) (cZ:S.fC) (aT:S.puts.length+6000<=4000000000000):
  Calls prog 18 #[pQ p] w λe w'=>OV w F p s c S e w':=by
 by_cases iZ:S.fuse=0\/¬lT (S.now 0) s
 .have rl:∀x,jP S s x S->x≠0:=λx j e=>by
   rcases j with ⟨_,n,_⟩|⟨a,b,_⟩
   .exact n e
   .exact iZ.elim b (λh=>h a)
  refine(OC h cZ (by omega) iZ).mono ?_;rintro e w' ⟨x,rfl,d,f,i⟩;exact⟨x,S,c+1,by omega,d,i, .inl ⟨rl x d,rfl,f.more⟩⟩
 .have qv:=Classical.byContradiction (λe=>iZ (.inr e));refine(OQ h cZ aT (λe=>iZ (.inl e)) qv).mono ?_;rintro e w' ⟨x,S',g,d,f⟩;exact⟨x,S',g,by have:=kh qv;omega,f⟩
theorem Lf (h:aB w F r s S) (cZ:S.fC) (aT:S.puts.length+6000<=4000000000000):
  Calls prog 68 #[pQ r] w λe w'=>eD w F r s S e w':=by
 by_cases a:S.fuse=0
 .exact If h a
 .exact Ig h a cZ aT
theorem nO {home:Nat}:∀{ms:CM} {S:DS},(sbring S s home ms).2.life=S.life
 | [],_=>rfl
 |q :: qs,S=>by
  have a:=kq S s ((home+q.1:Nat):Int) 512 q.2;unfold sbring;split
  .exact a
  .exact nO.trans a
theorem Tu (S:DS) (s:Nat) (f n:Int):(bu S s f n).2=S\/(bu S s f n).2.life=wrap64 (S.life+1):=by
 unfold bu;split
 .exact .inl rfl
 .split
  .exact .inr rfl
  .split
   .exact .inr rfl
   .exact .inr (fO _ _)
theorem Ix {y:LY} {ov:CM} {rs:List (List Int)}:(ee S s y ov rs).2.life=S.life:=by
 unfold ee;split
 .rfl
 .split
  .exact nO
  .exact(fO _ _).trans nO
theorem Tv:(L.start S s).2.1.life=S.life:=by
 unfold LG.start;split
 .rfl
 .split
  .rfl
  .split <;> exact iJ _ _ _ _
theorem jP.life (h:jP S s x S'):(S'=S/\x≠0)\/S'.life=wrap64 (S.life+1):=by
 rcases h with ⟨_,n,rfl⟩|⟨qv,d,k⟩
 .exact .inl ⟨rfl,n⟩
 .rcases k with ⟨_,n,rfl⟩|⟨c,rs,hd,Fl,k⟩
  .exact(Tu S s 1 (((cz (S.now 0)).log:Nat):Int)).imp (λh=>⟨h,n⟩) id
  .refine .inr ?_;have a:(bu S s 1 (((cz (S.now 0)).log:Nat):Int)).2.life=wrap64 (S.life+1):=by
    obtain⟨_,_,_,e⟩:=lV (f:=1) c;have b:bu S s 1 (((cz (S.now 0)).log:Nat):Int)=S.take.fl s:=e;rw [b];exact fO _ _
   rcases k with ⟨_,_,rfl⟩|⟨ov,uF,k⟩
   .exact a
   .rcases k with ⟨_,_,rfl⟩|⟨_,_,rfl⟩
    .exact Ix.trans a
    .exact Tv.trans (Ix.trans a)
theorem AH {g:Nat->DS->Int×DS} (a:∀j T,(g j T).2.life=T.life):∀k,(stepsTo S g k).2.life=S.life
 |0=>rfl
 |k+1=>by
  have:=AH a k;unfold stepsTo;split
  .exact this
  .exact(a k _).trans this
theorem Lg (S:DS) (s:Nat) (f n:Int):(cy S s f n).2.life=S.life\/(cy S s f n).2.life=wrap64 (S.life+1):=by
 unfold cy;split
 .exact .inl rfl
 .refine .inr ?_;have a:(bA S.take s f.toNat (n.toNat+2)).2.life=wrap64 (S.life+1):=AH (λ_ _=>kq _ _ _ _ _) _;have b:(cK S.take s f.toNat n.toNat).2.life=wrap64 (S.life+1):=by
   unfold cK;split
   .exact a
   .exact(fO _ _).trans a
  split
  .exact b
  .exact(iJ _ _ _ _).trans b
theorem uy (S:DS) (s a n:Nat):(eu S s a n).2.life=S.life:=by
 unfold eu;split
 .exact nO
 .exact(fO _ _).trans nO
theorem Lh (S:DS) (s:Nat) (a b c:Int):(bT S s a b c).2=S\/(bT S s a b c).2.life=wrap64 (S.life+1)\/(bT S s a b c).2.life=wrap64 (wrap64 (S.life+1)+1):=by
 unfold bT;split
 .exact .inl rfl
 .split
  .refine .inr ?_;have e:(lZ S s).2.life=wrap64 (S.life+1):=uy S.take s 0 1;have f:(mW S s).2.life=wrap64 (S.life+1):=(uy (lZ S s).2 s 1 (s-1)).trans e;have d:(jJ S s b.toNat).2.life=wrap64 (S.life+1)\/(jJ S s b.toNat).2.life=wrap64 (wrap64 (S.life+1)+1):=by
    have:=Lg (mW S s).2 s 1 (b.toNat:Int);rw [f] at this;exact this
   have g:(l5 S s b.toNat c.toNat).2.life=(jJ S s b.toNat).2.life:=kq _ _ _ _ _;unfold ly;split
   .exact .inl e
   .split
    .exact .inl f
    .split
     .exact d
     .split
      .rw [g];exact d
      .rw [fO,g];exact d
  .exact .inl rfl
theorem AI (h:L.life<S.life):L.dead S=true:=by
 unfold LG.dead;have:(S.life != L.life)=true:=by rw [fT];omega
 rw [this,Bool.or_true]
def Tw (S S':DS) (rs:List RI):Prop:=∀R∈rs,R.G.L.dead S'=false->R.G.L.dead S=false/\∀b,b<R.G.y.blocks->S'.now (R.G.y.home+b)=S.now (R.G.y.home+b)
theorem Lk.Yg {a:List PI} {e:List PT} {rs:List RI} {us:List RJ} (h:Lk S s N a e rs us):∀R∈rs,R.G.L.life<=S.life:=λR d=>by
 obtain⟨i,c⟩:=List.mem_iff_getElem?.1 d;obtain⟨I,b⟩:∃I,a[i]? =some I:=⟨a[i]'(by rw [<-h.sl];exact(mG.1 c).1),List.getElem?_eq_getElem _⟩;rw [h.sg i I R b c];exact(h.inv.ol I.G.L (List.mem_map.2 ⟨I,gu b,rfl⟩)).2
theorem Lk.sK {c:List PI} {d:List PT} {rs:List RI} {us:List RJ} (h:Lk S s N c d rs us) (a:S'=S\/S.life<S'.life):Tw S S' rs:=λR b hd=>by
 rcases a with rfl|a
 .exact⟨hd,λ_ _=>rfl⟩
 .rw [AI (by have:=h.Yg R b;omega)] at hd;cases hd
theorem vD (h0:0<=S.life) (a:S.life<=N) (b:N<=3999999990000):wrap64 (S.life+1)=S.life+1/\wrap64 (wrap64 (S.life+1)+1)=S.life+2:=by
 have e:wrap64 (S.life+1)=S.life+1:=by unfold wrap64;omega
 refine⟨e,?_⟩;rw [e];unfold wrap64;omega
theorem Lk.opened {d:List PI} {e:List PT} {rs:List RI} {us:List RJ} {I:PI} {R:RI} (h:Lk S s N d e rs us) (k:N<=M) (c:V.Inv S' s (d.map (λI=>I.G.L) ++ [I.G.L]) M) (o:R.G=I.G) (p:R.nv= .pointer none) (q:I.G.busy=false) (r:R.ps= []) (v:∀J∈e,J.i<d.length) (w:∀K∈us,K.i<rs.length) (EG:S'.refused=S.refused):Lk S' s M (d ++ [I]) e (rs ++ [R]) us:=by
 have z:=h.sl;refine⟨by rw [dT,dT,h.sl];rfl,λm A C b a=>?_,h.tl,h.tg,by rw [List.map_append];exact c,λm A C b a=>?_,λC a=>?_,λm C K a g l x=>?_,EG.trans h.rf⟩
 .rcases mV b with ⟨f,rfl⟩|⟨n,b⟩<;> rcases mV a with ⟨t,rfl⟩|⟨y,a⟩
  .exact o
  .omega
  .omega
  .exact h.sg m A C b a
 .rcases mV b with ⟨f,rfl⟩|⟨n,b⟩<;> rcases mV a with ⟨t,rfl⟩|⟨y,a⟩
  .refine .inl ⟨p,q,λj J u l=>?_⟩;have:=v J (gu u);omega
  .omega
  .omega
  .exact h.now m A C b a
 .rcases List.mem_append.1 a with a|a
  .exact jQ (h.cs C a) k
  .rw [List.mem_singleton.1 a,r];exact dU _
 .rcases mV a with ⟨f,rfl⟩|⟨n,a⟩
  .have:=w K g;omega
  .exact jQ (h.ct m C K a g l x) k
theorem PW.ti {P:Nat->Prop} {a:List PI} {b:List PT} (h:PW w F P p s S c a b):∀J∈b,J.i<a.length:=λJ e=>by
 obtain⟨I,d,_⟩:=h.tx J e;exact(mG.1 d).1
theorem RW.ui {X:Nat->Prop} {rs:List RI} {us:List RJ} (h:RW w F X r s S rs us):∀K∈us,K.i<rs.length:=λK b=>by
 obtain⟨I,a,_⟩:=h.tx K b;exact(mG.1 a).1
end
end
section
section
variable {w w':World} {q:Nat} {F P F2 X O A:Nat->Prop} {p r s c N:Nat} {S:DS} {v1 v2 v3 v4:Value} {ss:List PI} {ts:List PT} {rs:List RI} {us:List RJ}
theorem aaS (h:W5 w q F P F2 X O p r s S S c v1 v2 v3 v4 ss ts rs us) (n:Lk S s N ss ts rs us) (f:∀g,(F g\/P g\/F2 g\/X g\/O g)->A g) (h1:ss.length<=N) (h2:ts.length<=N) (hc:c<=5000*N) (hN:N<=3999999990000):
  Calls prog 25 #[pV q] w λe w'=>e= .returned (.bool true)/\dJ w w' q A p r s N:=by
 obtain⟨L9,l1,l2,c0,c1⟩:=ey n.inv.p6 (B.vV h.pw.d) (nE h.rw.e) h.c0 h.c1;have ho:=AG h.pw.d n.inv.pO (by omega);have u:=(λ(j:World) (hd:aB j F2 r s S)=>Lf hd n.inv.pO (by omega));obtain⟨wl1,wl2⟩:=vD n.inv.l0 n.inv.lt hN;obtain⟨l,o,Fg⟩:=jw h n h.under;clear h n;go_in;go_wp2_with fail;refine bE l1 λw1 bN=>?_;have j9:=bN.symm;clear bN l1;subst j9;go_wp2_with fail;refine bE l2 λw1 bN=>?_;have j9:=bN.symm;clear bN l2;subst j9;go_wp2_with fail;refine ho.mono ?_;rintro e j ⟨x,S',cR,hcR,l6,aX,Iy⟩;have hS:S'=S\/S.life<S'.life:=l6.life.imp (λh=>h.1) (λh=>by omega);have G:x=0->S.life<S'.life:=λe=>l6.life.elim (λh=>absurd e h.2) (λh=>by omega);obtain⟨ec,EG,z,C⟩:=cM aX.size l6.rf l6 ((o.sK hS));have t:=(o.inv.fv (by omega) l6);have oQ:aa (λg=>F g\/P g) w j:=aX.mono (λg h=> .inl h);clear ho l6 hS;rcases Iy with ⟨b,rfl,cC⟩|⟨b,q0,l0,m0,L,F',mL,rfl,Yi,Xh,vJ,ZI,kZ⟩
 .have i8:=l.pw.lA (λg h=>h) cC aX;have gY:=l.prog i8 oQ (λg h=>h) rfl rfl;obtain⟨H,Iw,eV,gQ⟩:=cM (u j gY.rw.e) gY.c1 gY oQ;clear i8 gY cC aX oQ c0 c1;go_wp2_with fail;refine H.mono ?_;rintro e i ⟨y,S2,Ih,aV,Li⟩;obtain⟨e1,e2⟩:=z.same Ih;subst e1;subst e2;clear Ih H;rcases Li with ⟨_,rfl,xS⟩|⟨rl,_⟩
  .have lW:=eV.rw.lA (λg h=>h) xS aV C;have mQ:aa (λg=>F2 g\/X g) j i:=aV.mono (λg h=> .inl h);have gW:=eV.doc lW mQ (λg h=>h) (λg h=> .inl h) rfl rfl;have j7:=ai (bi i.heap.size i);have uz:=gW.later j7;obtain⟨T,U,D,E⟩:=cM (B.vV uz.pw.d) (nE uz.rw.e) gW.c0 gW.c1;have mE:=(((gQ).mono (λg a=>f g (by rcases a with a|a;exact .inl a;exact .inr (.inl a)))).trans mQ (λg a=> .inl (f g (by rcases a with a|a;exact .inr (.inr (.inl a));exact .inr (.inr (.inr (.inl a))))))).trans (aa.ah (λ_=>False) j7) (λ_ h=>h.elim);have W:(dJ w i.drew q A p r s N):=⟨λg=>A g\/w.heap.size<=g,⟨_,_,_,_,_,_,cR,_,_,_,_,_,_,_,_,uz,o.Tr (M:=N+2) (by omega) ((t.1 b).more (by omega)) EG,λg a=>(by
    rcases a with (a|a)|a|(a|a)|a|a
    .exact .inl (f g (.inl a))
    .exact .inr a.1
    .exact .inl (f g (.inr (.inl a)))
    .exact .inl (f g (.inr (.inr (.inl a))))
    .exact .inr (by omega)
    .exact .inl (f g (.inr (.inr (.inr (.inl a)))))
    .exact .inl (f g (.inr (.inr (.inr (.inr a)))))),by omega,by omega,by omega⟩,mE,λ_ h=>h⟩
   clear lW mQ gW uz j7 mE xS aV Iw;go_wp2_with fail;go_region_held3 (λw'=>w'.cell? (aD q 0)=some (pV p)/\w'.cell? (aD q 1)=some (pV r))
    (exact⟨D,E⟩)
    (first
     |(go_at_call 22;refine T.mono ?_;rintro e w4 ⟨rfl,tD⟩;have Ex:=tD.symm;clear tD;subst Ex)
     |(go_at_call 23;refine U.mono ?_;rintro e w5 ⟨rfl,I3⟩;have Ld:=I3.symm;clear I3;subst Ld))
   clear T U D E;go_wp2;go_ret;exact⟨by simp,W⟩
  .exact absurd rl b
 .subst b;have G:=G rfl;have gY:=l.prog (l.pw.lA Yi kZ.d aX) oQ Yi rfl rfl;obtain⟨H,Iw,nq,nl,nm,eV,gQ,Z,v⟩:=UD (u j gY.rw.e) gY.c1 kZ.st.lt kZ.lp.lt kZ.ch.lt gY oQ (l.pw.push Yi kZ Xh vJ ZI aX) mL;clear gY kZ aX oQ c0 c1 mL;go_wp2_with fail;refine H.mono ?_;rintro e i ⟨y,S2,Ih,aV,Li⟩;obtain⟨e1,e2⟩:=z.same Ih;subst e1;subst e2;clear Ih H;rcases Li with ⟨rl,_⟩|⟨_,k0,Q,L2,F3,X2,afo,rfl,RO,Ml,xS,EI⟩
  .exact absurd rfl rl
  .obtain rfl:=v.same afo;have J:=eV.rw.push (I:=⟨k0,Q, .slice none 0 0, [],0, .pointer none,⟨cz (S.now 0),L, [],false⟩⟩) RO Ml xS EI rfl aV (λK hK=>AI (by have:=o.Yg K hK;omega));have mQ:aa (λg=>F2 g\/X g) j i:=aV.mono (λg h=> .inl h);have gW:=eV.doc (eV.rw.lA RO xS aV C) mQ RO (λg h=> .inl h) rfl rfl;have z2:j.heap.size<=i.drew.heap.size:=aV.size;have lI:∀g,w.heap.size<=g->¬(F2 g\/X g\/O g):=λg a b=>by have:=Fg g (by rcases b with b|b|b;exact .inr (.inr (.inl b));exact .inr (.inr (.inr (.inl b)));exact .inr (.inr (.inr (.inr b))));omega
   have k:∀g,w.heap.size<=g->¬P g:=λg a b=>by have:=Fg g (.inr (.inl b));omega
   have afp:=Z.au aV (λg a b=>eV.ad g (.inl a) (.inl b)) (λg a b=>by
    rcases a with a|a
    .exact eV.ad g (.inr a) (.inl b)
    .exact lI g (by omega) (.inl b))
   have j7:=ai (bi i.heap.size i);have WS:∀g,X2 g->g<i.drew.heap.size:=EI.lt;have BS:=(((gQ).mono (λg a=>f g (by rcases a with a|a;exact .inl a;exact .inr (.inl a)))).trans mQ (λg a=> .inl (f g (by rcases a with a|a;exact .inr (.inr (.inl a));exact .inr (.inr (.inr (.inl a))))))).trans (aa.ah (λ_=>False) j7) (λ_ h=>h.elim);have uz:=gW.later j7;obtain⟨T,U,D,E,Lj,HPd,VB,Y⟩:=rV (B.vV uz.pw.d) (nE uz.rw.e) gW.c0 gW.c1 uz ((afp.later j7)) ((J.later j7)) BS;clear J mQ gW uz afp xS aV EI Iw afo j7 BS;go_wp2_with fail;go_region_held3 (λw'=>w'.cell? (aD q 0)=some (pV p)/\w'.cell? (aD q 1)=some (pV r))
    (exact⟨D,E⟩)
    (first
     |(go_at_call 22;refine T.mono ?_;rintro e w4 ⟨rfl,tD⟩;have Ex:=tD.symm;clear tD;subst Ex)
     |(go_at_call 23;refine U.mono ?_;rintro e w5 ⟨rfl,I3⟩;have Ld:=I3.symm;clear I3;subst Ld))
   clear T U D E;generalize i.drew=Vd at*;obtain⟨g4',DU,V4,vX,Oa,su,dV⟩:=Lj.aff HPd (λg a b=>by
    rcases a with a|a
    .rcases b with b|b|b
     .exact Lj.ad g (.inr a) (.inl b)
     .exact Lj.ad g (.inr a) (.inr b)
     .exact Lj.oa g b (.inr a)
    .rcases b with b|b
     .rcases RO g b with b|b
      .exact lI g (by omega) (.inl b)
      .omega
     .exact lI g (by omega) (.inr b)) (by omega)
   have B7:=Lj.c2;have q4:=bH Oa;have f4:=ae Oa 2;obtain⟨V5,m⟩:=bQ (V4.setCell ⟨q,2,none⟩ (.slice (some ⟨g4',0,none⟩) (ss.length+1) DU));have OU:V5.heap.size=V4.heap.size:=(by rw [m];simp);rw [<-m] at su dV;have afq:=VB.au dV (λg a b=>Lj.od g b (.inl a)) (λg a b=>by
    rcases a with a|a
    .exact Lj.od g b (.inr a)
    .have:=Ml g a;exact lI g (by omega) (.inr (.inr b)))
   obtain⟨g5',Gj,V6,nD,nH,Fe,ji⟩:=su.afg afq (λg a b=>by
    rcases a with a|a
    .rcases b with b|b|b
     .exact su.ad g (.inl b) (.inr a)
     .exact su.ad g (.inr b) (.inr a)
     .exact su.od g b (.inr a)
    .have a1:=Ml g a;have a2:=WS g a;rcases b with b|(b|b)|(b|b)
     .have:=eV.under g (.inl b);omega
     .exact k g (by omega) b
     .omega
     .exact lI g (by omega) (.inr (.inr b))
     .omega) (by have:=o.sl;omega)
   obtain⟨ML,q5,f5,z4⟩:=cM su.c3 (fI nH) (ae nH 3) dV.size;have mE:=(Y.trans dV (λg a=> .inl (f g (.inr (.inr (.inr (.inr a))))))).trans ji (λg a=>by
    rcases a with a|a
    .exact .inl (f g (.inr (.inr (.inr (.inr a)))))
    .exact .inr (by omega))
   have W:(dJ w (V6.setCell ⟨q,3,none⟩ (.slice (some ⟨g5',0,none⟩) (rs.length+1) Gj)) q A p r s N):=⟨λg=>A g\/w.heap.size<=g,⟨_,_,_,_,_,_,cR,_,_,_,_,_,_,_,_,Fe,o.opened (I:=⟨q0,l0,m0,⟨cz (S.now 0),L, [],false⟩⟩) (R:=⟨k0,Q, .slice none 0 0, [],0, .pointer none,⟨cz (S.now 0),L, [],false⟩⟩) (M:=N+2) (by omega) ((t.2 (by trivial) L v).more (by omega)) rfl rfl rfl rfl l.pw.ti l.rw.ui EG,λg a=>(by
    rcases a with a|(a|a)|a|(a|a)|((a|a)|a)
    .rcases Yi g a with a|a
     .exact .inl (f g (.inl a))
     .exact .inr a.1
    .exact .inl (f g (.inr (.inl a)))
    .exact .inr (by omega)
    .rcases RO g a with a|a
     .exact .inl (f g (.inr (.inr (.inl a))))
     .exact .inr (by omega)
    .exact .inl (f g (.inr (.inr (.inr (.inl a)))))
    .exact .inr (by have:=Ml g a;omega)
    .exact .inl (f g (.inr (.inr (.inr (.inr a)))))
    .exact .inr (by omega)
    .exact .inr (by omega)),by rw [dT];show ss.length+1<=_;omega,by omega,by omega⟩,mE,λ_ h=>h⟩
   rw [OU] at nD;rw [m] at nD ML;have G0:=vX;have G1:=nD;clear lI k vX Oa su dV afq nD nH Fe ji mE WS RO Ml Yi;go_wp2_with (at_builtin;first|refine bj rfl _ _ 30 rfl v1 (.slice (some (aD Vd.heap.size 0)) 1 1) _ rfl rfl G0 ?_|refine bj rfl _ _ 31 rfl v2 (.slice (some (aD V4.heap.size 0)) 1 1) _ rfl rfl G1 ?_);go_wp2;go_ret;exact⟨rfl,W⟩
end
end
section
theorem Ll {B:Int} (h:Bytes d):Bytes (ld B d):=by
 unfold ld;split
 .exact LC B
 .exact h
theorem Tx {B:Int}:(ld B d).length=512\/(ld B d).length=d.length:=by
 unfold ld;split
 .exact .inl (uC B)
 .exact .inr rfl
section
variable {w:World} {g:Nat} {c0 c1 c2 c3 c4 c5 c6 c7 c8:Value} {e:TypeId}
theorem iT (h:w.heap[g]? =some (.cells #[c0,c1,c2,c3,c4,c5,c6,c7,c8] e (0,0))):w.cell? (aD g 0)=some c0/\w.cell? (aD g 1)=some c1/\w.cell? (aD g 2)=some c2/\w.cell? (aD g 3)=some c3/\w.cell? (aD g 4)=some c4/\w.cell? (aD g 5)=some c5/\w.cell? (aD g 6)=some c6/\w.cell? (aD g 7)=some c7/\w.cell? (aD g 8)=some c8:=
   ⟨aL h,bD h,bH h,fI h,gz h,rU h,wG h,ri h,Dg h⟩
end
theorem OW {S:DS} {b:Int} (e:CM.Ok T.puts) (a:∀x∈T.puts,x.1<G.y.blocks):(T.put G S b d).2.ended=T.ended/\(T.put G S b d).2.puts.length<=T.puts.length+1/\∀x∈(T.put G S b d).2.puts,x.1<G.y.blocks:=by
 unfold TG.put;split
 .exact⟨rfl,Nat.le_succ _,a⟩
 .rename_i q;split
  .exact⟨rfl,Nat.le_succ _,a⟩
  .split
   .exact⟨rfl,Nat.le_succ _,a⟩
   .split
    .exact⟨rfl,Nat.le_succ _,a⟩
    .obtain⟨_,_,_,f,g⟩:=iK (Decidable.of_not_not q);refine⟨rfl,?_,λx c=>?_⟩
     .show (CM.put T.puts b.toNat d).length<=_;rw [CM.sv e];split <;> omega
     .rcases CM.qL c with rfl|c
      .show b.toNat<_;omega
      .exact a x c
theorem PW.aft {w w':World} {F P:Nat->Prop} {p s c c':Nat} {S:DS} {o:List PI} {r:List PT} {I:PI} {J:PT} {T':TG} (h:PW w F P p s S c o r) (f:o[J.i]? =some I) (u:r[j]? =some J) (nK:w'.heap[J.t]? =some (.cells (zK I.q J.n T') 98 (0,0))) (nc:Ch w' J.n T'.puts) (oZ:∀x∈T'.puts,x.1<I.G.y.blocks) (hd:B.ax w' F p s S c') (k:aa (λg=>F g\/g=J.t\/g=J.n) w w'):PW w' F P p s S c' o (r.set j {J with T:=T'}):=by
 have b:=h.EF f;have e:=h.K6 u f;have bt:ig w' F p s c' I.q I.l I.m S I.G:=⟨hd,b.st.au k (λa=>by rcases a with a|a|a;exact b.nq a;exact e.tq a.symm;exact e.nq a.symm),b.lp.au k (λa=>by rcases a with a|a|a;exact b.nl a;exact e.tl a.symm;exact e.nl a.symm),b.ch.au k (λa=>by rcases a with a|a|a;exact b.nm a;exact e.tm a.symm;exact e.nm a.symm),b.nq,b.nl,b.nm,b.ql,b.qm,b.lm,b.lk,b.bg,b.hs,b.kb⟩;have:=h.on f u rfl rfl (λg d=> .inl d) bt nK nc oZ (k.mono (λg d=>by rcases d with d|d|d;exact .inl d;exact .inr (.inr (.inr (.inr (.inl d))));exact .inr (.inr (.inr (.inr (.inr d))))));rwa [mD f] at this
section
variable {w w':World} {q:Nat} {F P F2 X O A:Nat->Prop} {p r s c N:Nat} {S:DS} {v1 v2 v3 v4:Value} {ss:List PI} {ts:List PT} {rs:List RI} {us:List RJ}
end
end
section
section
variable {w w':World} {q:Nat} {F P F2 X O A:Nat->Prop} {p r s c N:Nat} {S:DS} {v1 v2 v3 v4:Value} {ss:List PI} {ts:List PT} {rs:List RI} {us:List RJ}
theorem C7 (h:W5 w q F P F2 X O p r s S S c v1 v2 v3 v4 ss ts rs us) (hl:Lk S s N ss ts rs us) (E:∀g,(F g\/P g\/F2 g\/X g\/O g)->A g) (mc:∀g,A g->g<w.heap.size) (h1:ss.length<=N) (h2:ts.length<=N) (hc:c<=5000*N) (hN:N<=3999999990000) (kd ag Z BB:Int) (da:Option Addr) (dn dc:Nat) (pa:Option Addr) (pn pc:Nat) (x y z:Int) (AD:ag<=9223372036854775807) (d:List Int) (wL:∀W,aa A w W->Src W da dn d) (wX:Bytes d) (DM:dn<=140737488355328) (Ep:kd=4\/kd=5\/kd=6\/kd=7\/kd=8\/kd=9\/kd=12):
  Calls prog 32 #[pV q, .agg (iO kd ag Z BB da dn dc pa pn pc x y z)] w λe w'=>e= .returned (.bool true)/\dJ w w' q A p r s N:=by
 obtain⟨W,hW⟩:=bQ (w.alloc (.cells (iO kd ag Z BB da dn dc pa pn pc x y z) 41));have EB:bW w W:=by rw [hW];exact(bi w.heap.size w).alloc (bP _) _
 have BP:W.heap[w.heap.size]? =some (.cells (iO kd ag Z BB da dn dc pa pn pc x y z) 41 (0,0)):=by rw [hW];exact heap_alloc_new _ _
 have Hv:W.heap.size=w.heap.size+1:=by rw [hW,World.size_alloc]
 have tW:¬A w.heap.size:=λv=>by have:=mc _ v;omega
 obtain⟨a3,c3,hv3⟩:=AB h.o3;have To:=h.later EB;have d0:W.cell? (aD w.heap.size 0)=some (iV kd):=aL BP;have d1:W.cell? (aD w.heap.size 1)=some (iV ag):=bD BP;have e4:=To.c4;have sd:=λk=>Az (W.drewN k) ts.length ag AD (by omega);obtain⟨HW,U,CQ,Mp⟩:=cM To hl EB BP;rw [hv3] at e4;clear h hl To EB BP;go_in;go_wp2_with fail;rw [<-hW];clear hW;go_quiet (first|(go_at_call 73;refine Calls.quiet_of_same (sd _)));rename_i nq _;have hq:bW W (W.drewN nq):=below_drewN (bi _ _) nq;have fH:=(HW.later hq);have ux:=(CQ.trans (hq.mono (by omega)));have X3:(W.drewN nq).heap.size=w.heap.size+1:=Hv;have Uu:=((hq.block w.heap.size (by omega)).trans Mp);clear HW CQ Mp sd hq d0 d1 e4 Hv;generalize W.drewN nq=V at*;have dV0:V.cell? (aD w.heap.size 0)=some (iV kd):=aL Uu;have dV2:V.cell? (aD w.heap.size 2)=some (iV Z):=bH Uu;have e4:=fH.c4;have e5:=fH.c5;by_cases q0:ts.length=0
 .have fo:bk ts.length ag= -1:=by unfold bk;rw [aE q0]
  rw [fo];go_wp2;go_ret;exact⟨rfl,dJ.idle fH U E h1 h2 hc ux⟩
 .obtain⟨j,hj,Yd⟩:=Tn (show 0<ts.length by omega) ag;rw [Yd];have YQ:¬(j:Int)<0:=by omega
  have Yt:(j:Int)<(ts.length:Int):=by omega
  obtain⟨J,K,I,R,Q,H,D,Y,k1,k2,k3⟩:=fH.tx U hj;obtain⟨g3,cp3,Tp,t3⟩:=vC (i:=j) fH.o3 (by rw [Bd,Q];rfl);obtain⟨g4,cp4,Tq,t4⟩:=vC (i:=j) fH.o4 (by rw [Bd,H];rfl);rw [Tp] at e4;rw [Tq,U.tl] at e5;have Br:rs[K.i]? =some R:=by rw [k1];exact Y
  clear Yd q0;rcases Ep with rfl|rfl|rfl|rfl|rfl|rfl|rfl
  .have I8:∀(x0 x1 x2 x3 x4:Int) (wx:World),(Instr.field 65 (.agg #[iV x0,iV x1,iV x2,iV x3,iV x4]) 0).run prog wx= .ok (iV x0) wx:=λ_ _ _ _ _ _=>by kernel_rfl
   have e0:=fH.c0;have L9:=U.inv.p6;have nY:=U.cs R (gu Y);have hld:(ld BB d).length<=140737488355328:=by
    have a1:=(wL w (aa.ah A (bi _ _))).1;rcases Tx (B:=BB) (d:=d) with a2|a2 <;> omega
   have Bj:=Ll (B:=BB) wX;have XR:=wL;have rB:∀g,F g\/P g->g<V.heap.size:=λg a=>a.elim (fH.pw.d.lt g) (fH.pw.lt g);have Fg:=rB;have Y9:∀g,F2 g\/X g->g<V.heap.size:=λg a=>a.elim (fH.rw.e.lt g) (fH.rw.lt g);have HXl:=Y9;have AJ:=fH.pw.K6 Q D;have mT:=OW (G:=I.G) (S:=S) (b:=Z) (d:=ld BB d) AJ.ch.ok AJ.kb;obtain⟨_,_,_,_,⟨pt,pn'⟩,_⟩:=fH.pw.tx J (gu Q);clear dV0 dV2 wL rB Y9 AJ;obtain⟨y0,y1,y2,y3,y4,y5,y6,y7,y8⟩:=iT Uu;go_wp2_with fail;refine(lB 4 ag Z BB da dn dc pa pn pc x y z d V (XR V (aa.ah A ux)) DM).mono ?_;rintro e V1 ⟨g1,rfl,o8,Yj,aq⟩;have OX:=fH.later aq;have e01:=OX.c0;obtain⟨IU,cN,HW1,Cu⟩:=cM (B.qQ OX.pw.d (by omega) (by omega)) aq OX Yj;clear aq OX Yj y0 y1 y2 y3 y4 y5 y6 y7 y8 e0;go_wp2_with fail;refine IU.mono ?_;rintro e C ⟨rr,rfl,JY,cC,aW⟩;have gY:=HW1.prog (HW1.pw.lA (λg h=> .inl h) cC (aa.ah F aW)) (aa.ah _ aW) (λg h=> .inl h) rfl rfl;have lL:=Cu.agree (aW.block g1 Cu.lt);have sB:=VF (gY.pw.EF D) (gY.pw.K6 Q D) Z (some (aD g1 0)) (ld BB d).length (ld BB d).length (ld BB d) lL.src hld Bj (by omega);have aaV:=cN.trans (aW.mono cN.size);have Ty:=(aaV.block w.heap.size (by omega)).trans Uu;obtain⟨z2,eV,zc,dE,Vc⟩:=ey (bH Ty) gY lL aaV Ty;clear IU cC aW gY lL aaV Ty e01;unfold zP at sB;have HPu:=(λ(V4:World) (ts2:List PT) (c2:Nat) (ga:Nat) (hw:W5 V4 q F P F2 X O p r s S S c2 v1 v2 v3 v4 ss ts2 rs us) (aY:ay V4 5 ga (ld BB d).length (bs (ld BB d)))=>R3 hw.rw.e (hw.rw.jI Y) (hw.rw.oV H Br) Z (some (aD ga 0)) (ld BB d).length (ld BB d).length (ld BB d) aY.src hld Bj (by omega) (by omega));unfold fA at HPu;rw [k2,k3] at HPu;generalize akS:J.T.put I.G S Z (ld BB d)=Pu at*;clear akS;go_wp2_with fail;refine sB.mono ?_;rintro e V3 ⟨rfl,Iz,Tz,hd3,aV⟩;have oQ:aa (λg=>F g\/P g) C V3:=aV.mono (λg a=>by rcases a with a|a|a;exact .inl a;exact .inr (a▸pt);exact .inr (a▸pn'));have gW:=eV.prog (eV.pw.aft D Q Iz Tz mT.2.2 hd3 aV) oQ (λg h=> .inl h) rfl (fV (f:=λJ:PT=>pV J.t) Q rfl);have TA:=(oQ.block w.heap.size (aw Vc) (λv=>tW (E _ (by rcases v with v|v;exact .inl v;exact .inr (.inl v))))).trans Vc;have ml:=zc.agree (oQ.block g1 zc.lt (λv=>by have:=Fg g1 v;omega));obtain⟨y0,y1,y2,y3,y4,y5,y6,y7,y8⟩:=iT TA;have BS:=((aa.ah A ux).trans (aa.ah (λ_=>False) dE) (λ_ h=>h.elim)).trans oQ (λg a=> .inl (E g (by rcases a with a|a;exact .inl a;exact .inr (.inl a))));obtain⟨akT,HW3,Vf,I9,HA3,kO⟩:=kQ (lB 4 ag Z BB da dn dc pa pn pc x y z d V3 (XR V3 BS) DM) gW TA ml BS (jQ dE.size oQ.size);clear sB Iz Tz hd3 aV oQ gW TA ml BS z2;have j7:=ai (bi V3.heap.size V3);have afx:=lB 4 ag Z BB da dn dc pa pn pc x y z d V3.drew (XR V3.drew (HA3.trans (aa.ah (λ_=>False) j7) (λ_ h=>h.elim))) DM;have sH:=j7;have hzd:V3.drew.heap.size=V3.heap.size:=rfl;clear akT j7;go_wp2_with fail;go_region_held3 (λw'=>w'.cell? (aD w.heap.size 0)=some (iV 4)/\w'.cell? (aD w.heap.size 1)=some (iV ag)/\w'.cell? (aD w.heap.size 2)=some (iV Z)/\w'.cell? (aD w.heap.size 3)=some (iV BB)/\w'.cell? (aD w.heap.size 4)=some (.slice da dn dc)/\w'.cell? (aD w.heap.size 5)=some (.slice pa pn pc)/\w'.cell? (aD w.heap.size 6)=some (iV x)/\w'.cell? (aD w.heap.size 7)=some (iV y)/\w'.cell? (aD w.heap.size 8)=some (iV z))
    (first|exact⟨y0,y1,y2,y3,y4,y5,y6,y7,y8⟩|exact HZ4|exact HZ5)
    (first
     |(go_at_call 80;refine afx.mono ?_;rintro e V4 ⟨g4',rfl,Gi,Mw,nL⟩;have fe:=sH.trans (nL.mono (bP _));have su:=HW3.later fe;have ub:=HPu V4 _ _ g4' su Mw;have Yk:=(fe.block w.heap.size (aw Vf)).trans Vf;have HZ4:=(iT Yk);have IW:=su;have Xt:=Yk;have jB:=fe)
     |(go_at_call 82;refine ub.mono ?_;rintro e V5 ⟨rfl,⟨tv',KB,WI,afy⟩,dX⟩;have HZ5:=(iT ((dX.block w.heap.size (aw Xt) (λv=>tW (E _ (.inr (.inr (.inr (.inl (by rcases v with v|v;exact v▸(IW.rw.oV H Br).xt;exact(IW.rw.oV H Br).pl.row _ v)))))))).trans Xt))))
   obtain⟨Vo,HA4,vS,iU⟩:=cM ((I9.agree (jB.block g1 I9.lt))) ((HA3.trans (aa.ah (λ_=>False) jB) (λ_ h=>h.elim))) jB.size (IW.rw.oV H Br);have afz:=IW.rw.K9 Br H (K':={K with T:=Pu.2,tv:=tv',us:=KB}) rfl rfl (X':=more X V4 V5) (λg h=> .inl h) (λg h=>h) (by rw [k3];exact WI) afy dX (λg a=>a.elim (λh=>iP (IW.rw.lt g h) dX.size) (λh=>h.2));have mQ:aa (λg=>F2 g\/X g) V4 V5:=dX.mono (λg e=> .inr (by rcases e with e|e;exact e▸iU.xt;exact iU.pl.row g e));have Py:=IW.doc afz mQ (λg h=> .inl h) (λg h=>h) rfl (fV (f:=λJ:RJ=>pV J.u) H rfl);have hL5:=U.upd (I':=I) (R':=R) (J':={J with T:=Pu.2}) (K':={K with T:=Pu.2,tv:=tv',us:=KB}) (M:=N+2) D Y Q H rfl rfl rfl rfl rfl k3 rfl (.inl ⟨mT.1,rfl⟩) (by omega) (by rw [mD D];exact U.inv.more (by omega)) (by omega) (λhe=>by
    have Yl:=mT.1.symm.trans he;have a0:=U.ct J.i R K Y (gu H) k1 (by rw [k2];exact Yl);have a3:=iU.pu (by rw [k2];exact Yl);have a5:=mT.2.1;rw [(WI.pu he),p9 (ms:= []) rD WI.nd (λ_ _=>rfl),<-k2,a3,(p9 (ms:= []) rD iU.nd (λ_ _=>rfl))] at a5;have a6:([]:CM).length=0:=rfl;show R.ps.length+KB.length<=_;omega) (.inl rfl) rfl
   rw [mD D,mD Y] at hL5;have Ym:=(mQ.block w.heap.size (aw Xt) (λv=>tW (E _ (by rcases v with v|v;exact .inr (.inr (.inl v));exact .inr (.inr (.inr (.inl v))))))).trans Xt;have Yn:=Vo.agree (mQ.block g1 Vo.lt (λv=>by have:=HXl g1 v;omega));obtain⟨y0,y1,y2,y3,y4,y5,y6,y7,y8⟩:=iT Ym;have aaW:=HA4.trans mQ (λg a=> .inl (E g (by rcases a with a|a;exact .inr (.inr (.inl a));exact .inr (.inr (.inr (.inl a))))));obtain⟨afA,Tk,HL5,HR5,HA5,qE⟩:=kQ (lB 4 ag Z BB da dn dc pa pn pc x y z d V5 (XR V5 aaW) DM) Py hL5 Yn aaW mQ.size;clear ub WI afy dX iU afz mQ Py hL5 Ym Yn aaW;go_wp2_with fail;refine afA.mono ?_;rintro e V6 ⟨g6,rfl,hg6,vY,ny⟩;have km:=pb (some (aD g1 0)) (some (aD g6 0)) (ld BB d).length (ld BB d).length (ld BB d).length (ld BB d) V6 hld (HR5.agree (ny.block g1 HR5.lt)).src vY.src;have wO:=ny;clear afA vY ny y0 y1 y2 y3 y4 y5 y6 y7 y8;go_wp2_with fail;refine bE km λV7 vU=>?_;have aaX:=wO.trans (vU.mono wO.size);have hW7:=Tk.later aaX;obtain⟨IB,e07,HW7,Fk⟩:=cM (B.qQ hW7.pw.d (by omega) (by omega)) hW7.c0 hW7 aaX;clear km vU aaX hW7;go_wp2_with fail;refine IB.mono ?_;rintro e V8 ⟨r8,rfl,hr8,nU,BD⟩;have hW8:=HW7.prog (HW7.pw.lA (λg h=> .inl h) nU (aa.ah F BD)) (aa.ah _ BD) (λg h=> .inl h) rfl rfl;have d6:(r8:Int)<=(rr:Int)+1:=(by omega);have akW:=ux.size;have HF:(dJ w V8 q A p r s N):=⟨λg=>A g\/w.heap.size<=g,⟨F,P,F2,more X V4 V5,O,S,r8,v1,v2,v3,v4,ss,_,rs,_,hW8,HL5,λg a=>(by
     rcases a with a|a|a|(a|a)|a
     .exact .inl (E g (.inl a))
     .exact .inl (E g (.inr (.inl a)))
     .exact .inl (E g (.inr (.inr (.inl a))))
     .exact .inl (E g (.inr (.inr (.inr (.inl a)))))
     .exact .inr (by omega)
     .exact .inl (E g (.inr (.inr (.inr (.inr a)))))),by omega,by rw [List.length_set];omega,by omega⟩,(HA5.trans (aa.ah (λ_=>False) Fk) (λ_ h=>h.elim)).trans (aa.ah (λ_=>False) BD) (λ_ h=>h.elim),λ_ h=>h⟩
   clear IB nU BD hW8;go_wp2;go_ret;exact⟨by simp,HF⟩
  .have I8:∀(x0 x1 x2 x3 x4:Int) (wx:World),(Instr.field 65 (.agg #[iV x0,iV x1,iV x2,iV x3,iV x4]) 0).run prog wx= .ok (iV x0) wx:=λ_ _ _ _ _ _=>by kernel_rfl
   have e0:=fH.c0;have L9:=U.inv.p6;have nY:=U.cs R (gu Y);have IU:=B.qQ fH.pw.d (by omega) (by omega);have mL:J.T.refusal I.G S Z=0->(J.T.jN I.G S Z.toNat).length=512:=λhz=>by
    obtain⟨_,_,_,h4,h5⟩:=iK hz;exact zM (fH.pw.EF D) (fH.pw.K6 Q D) Z.toNat (by omega)
   by_cases qc:J.T.refusal I.G S Z=0
   .have aso:=mL qc;go_wp2_with fail;refine IU.mono ?_;rintro e C ⟨rr,rfl,JY,cC,aW⟩;have gY:=fH.prog (fH.pw.lA (λg h=> .inl h) cC (aa.ah F aW)) (aa.ah _ aW) (λg h=> .inl h) rfl rfl;obtain⟨vQ,e42,aaY,eV,dE⟩:=ey (D5 (gY.pw.EF D) (gY.pw.K6 Q D) Z (by omega)) (di (aa.ah (λ_=>False) aW) (λh=>h) e4) (di (aa.ah (λ_=>False) aW) (λh=>h) dV2) gY aW;clear IU cC aW gY;go_wp2_with fail;refine vQ.mono ?_;rintro e V3 ⟨ho,hd3,aV⟩;unfold vk at ho;rw [aA (λh=>h qc)] at ho;obtain⟨g3',rfl,asq,aZ⟩:=ho;have IA:=eV.pw.lA (λg h=> .inl h) hd3 aV;have hkF:aa (λg=>F g\/P g) C V3:=aV.mono (λg h=> .inl h);have gW:=eV.prog IA hkF (λg h=> .inl h) rfl rfl;have mI:=Ae gW.rw.e (gW.rw.jI Y) (gW.rw.oV H Br) Z (by omega) (by omega);rw [k2,k3] at mI;have akX:=di aV (λv=>tW (E _ (.inl v))) aaY;have HW3:=gW;have ma:=aV;clear vQ hd3 aV IA hkF gW;go_wp2_with fail;refine mI.mono ?_;rintro e V4 ⟨ho,fe⟩;unfold qT at ho;rw [aA (λh=>h qc)] at ho;obtain⟨g4',rfl,asr,ub⟩:=ho;have km:=pb (some (aD g3' 0)) (some (aD g4' 0)) 512 512 512 (J.T.jN I.G S Z.toNat) V4 (by omega) (by
     have h9:=(aZ.au (fe.block g3' aZ.lt)).src (o:=0) (n:=512) (by omega);rwa [List.drop_zero,nh (by omega)] at h9) (by have h9:=ub.src;rwa [mL qc] at h9)
    have jB:=fe;have IW:=HW3.later fe;clear mI fe;go_wp2_with fail;refine bE km λV5 ff=>?_;have Py:=IW.later ff;obtain⟨IB,e05,Tk,jd⟩:=cM (B.qQ Py.pw.d (by omega) (by omega)) Py.c0 Py ff;clear km ff Py;go_wp2_with fail;refine IB.mono ?_;rintro e V6 ⟨r6,rfl,FB,po,ny⟩;have Fe:=Tk.prog (Tk.pw.lA (λg h=> .inl h) po (aa.ah F ny)) (aa.ah _ ny) (λg h=> .inl h) rfl rfl;have d6:(r6:Int)<=(rr:Int)+1:=(by omega);have HF:(dJ w V6 q A p r s N):=⟨A,⟨F,P,F2,X,O,S,r6,v1,v2,v3,v4,ss,ts,rs,us,Fe,U.more (by omega),E,by omega,by omega,by omega⟩,((((((aa.ah A ux).trans (aa.ah (λ_=>False) dE) (λ_ h=>h.elim)).trans ma (λg a=> .inl (E g (.inl a)))).trans (aa.ah (λ_=>False) jB) (λ_ h=>h.elim)).trans (aa.ah (λ_=>False) jd) (λ_ h=>h.elim)).trans (aa.ah (λ_=>False) ny) (λ_ h=>h.elim)),λ_ h=> .inl h⟩;clear IB po ny Fe;go_wp2;go_ret;exact⟨by simp,HF⟩
   .have hqq:=qc;go_wp2_with fail;refine IU.mono ?_;rintro e C ⟨rr,rfl,JY,cC,aW⟩;have gY:=fH.prog (fH.pw.lA (λg h=> .inl h) cC (aa.ah F aW)) (aa.ah _ aW) (λg h=> .inl h) rfl rfl;obtain⟨vQ,e42,aaY,eV,dE⟩:=ey (D5 (gY.pw.EF D) (gY.pw.K6 Q D) Z (by omega)) (di (aa.ah (λ_=>False) aW) (λh=>h) e4) (di (aa.ah (λ_=>False) aW) (λh=>h) dV2) gY aW;clear IU cC aW gY;go_wp2_with fail;refine vQ.mono ?_;rintro e V3 ⟨ho,hd3,aV⟩;unfold vk at ho;rw [aE qc] at ho;subst ho;have IA:=eV.pw.lA (λg h=> .inl h) hd3 aV;have hkF:aa (λg=>F g\/P g) C V3:=aV.mono (λg h=> .inl h);have gW:=eV.prog IA hkF (λg h=> .inl h) rfl rfl;have mI:=Ae gW.rw.e (gW.rw.jI Y) (gW.rw.oV H Br) Z (by omega) (by omega);rw [k2,k3] at mI;have akX:=di aV (λv=>tW (E _ (.inl v))) aaY;have HW3:=gW;have ma:=aV;clear vQ hd3 aV IA hkF gW;go_wp2_with fail;refine mI.mono ?_;rintro e V4 ⟨ho,fe⟩;unfold qT at ho;rw [aE qc] at ho;subst ho;have km:Calls prog 21 #[.slice none 0 0, .slice none 0 0] V4 λe w'=>e= .returned (.bool true)/\bW V4 w':=(BX none none 0 0 V4).mono (by rintro e w' ⟨rfl,rfl⟩;exact⟨rfl,bi _ _⟩);have jB:=fe;have IW:=HW3.later fe;clear mI fe;go_wp2_with fail;refine bE km λV5 ff=>?_;have Py:=IW.later ff;obtain⟨IB,e05,Tk,jd⟩:=cM (B.qQ Py.pw.d (by omega) (by omega)) Py.c0 Py ff;clear km ff Py;go_wp2_with fail;refine IB.mono ?_;rintro e V6 ⟨r6,rfl,FB,po,ny⟩;have Fe:=Tk.prog (Tk.pw.lA (λg h=> .inl h) po (aa.ah F ny)) (aa.ah _ ny) (λg h=> .inl h) rfl rfl;have d6:(r6:Int)<=(rr:Int)+1:=(by omega);have HF:(dJ w V6 q A p r s N):=⟨A,⟨F,P,F2,X,O,S,r6,v1,v2,v3,v4,ss,ts,rs,us,Fe,U.more (by omega),E,by omega,by omega,by omega⟩,((((((aa.ah A ux).trans (aa.ah (λ_=>False) dE) (λ_ h=>h.elim)).trans ma (λg a=> .inl (E g (.inl a)))).trans (aa.ah (λ_=>False) jB) (λ_ h=>h.elim)).trans (aa.ah (λ_=>False) jd) (λ_ h=>h.elim)).trans (aa.ah (λ_=>False) ny) (λ_ h=>h.elim)),λ_ h=> .inl h⟩;clear IB po ny Fe;go_wp2;go_ret;exact⟨by simp,HF⟩
  .have bt:=nI (fH.pw.EF D) (fH.pw.K6 Q D);have Lm:=λ(C:World) (hb:bW V C)=>j5 (fH.later hb).rw.e ((fH.later hb).rw.jI Y) ((fH.later hb).rw.oV H Br).tx;rw [k2,k3] at Lm;have Om:=Lm;clear Lm;go_wp2_with fail;refine bE bt λC aW=>?_;have fb:=Om C aW;have dE:=aW;clear bt aW;go_wp2_with fail;refine bE fb λV3 bz=>?_;have fS:=(dE.trans (bz.mono dE.size));clear fb bz;go_wp2;go_ret;exact⟨by simp,dJ.idle (fH.later fS) U E h1 h2 hc (ux.trans (fS.mono ux.size))⟩
  .have hsp:=CG (fH.pw.EF D) (fH.pw.K6 Q D) Z;have HSp:=(λ(C:World) (hw:W5 C q F P F2 X O p r s S S c v1 v2 v3 v4 ss (ts.set j {J with T:=(J.T.my I.G S Z).2}) rs us)=>Kn hw.rw.e (hw.rw.jI Y) (hw.rw.oV H Br).tx Z);have mO:(J.T.my I.G S Z).2.ended=J.T.ended/\(J.T.my I.G S Z).2.puts=J.T.puts:=by
    unfold TG.my;split
    .exact⟨rfl,rfl⟩
    .split <;> exact⟨rfl,rfl⟩
   rw [k2,k3] at HSp;generalize J.T.my I.G S Z=Sp at*;go_wp2_with fail;refine fk hsp λC aW I2=>?_;have AJ:=fH.pw.K6 Q D;have aX:aa (λg=>g=J.t\/g=J.n) V C:=I2.mono (λ_ h=> .inl h);have i8:=fH.pw.K9 D Q (T':=Sp.2) aW (by rw [mO.2];exact AJ.ch.au I2 (λe=>AJ.tn e.symm)) (by rw [mO.2];exact AJ.kb) aX;obtain⟨_,_,_,_,⟨pt,pn'⟩,_⟩:=fH.pw.tx J (gu Q);have oQ:aa (λg=>F g\/P g) V C:=I2.mono (λg e=> .inr (e▸pt));have gY:=fH.prog i8 oQ (λg a=> .inl a) rfl (fV (f:=λJ:PT=>pV J.t) Q rfl);have fb:=HSp C gY;have ast:=di oQ (λv=>tW (E _ (by rcases v with v|v;exact .inl v;exact .inr (.inl v)))) dV2;have eV:=gY;have gQ:=oQ;clear hsp aW I2 aX i8 oQ gY;go_wp2_with fail;refine fk fb λV3 bz aV=>?_;have iU:=eV.rw.oV H Br;have lW:=eV.rw.K9 Br H (K':={K with T:=Sp.2}) rfl rfl (λg h=>h) (λg h=> .inl h) ⟨bz,iU.xt,iU.pl.other iU.tx (by decide) (by decide) aV,iU.nd,λhe=>by
    show Sp.2.puts=_;rw [mO.2,<-k2];exact iU.pu (by rw [k2,<-mO.1];exact he),iU.kb,iU.D6⟩ (.inl rfl) (aV.mono (λ_ h=> .inl h)) (λg a=>iP (eV.rw.lt g a) aV.size)
   have mQ:aa (λg=>F2 g\/X g) C V3:=aV.mono (λg e=> .inr (e▸iU.xt));have gW:=eV.doc lW mQ (λg h=> .inl h) (λg h=> .inl h) rfl (fV (f:=λJ:RJ=>pV J.u) H rfl);have wu:=U.K9 (J':={J with T:=Sp.2}) (K':={K with T:=Sp.2}) Q H rfl rfl rfl rfl mO.1 (by show K.us.length<=_;omega);have mE:=((aa.ah A ux).trans gQ (λg a=> .inl (E g (by rcases a with a|a;exact .inl a;exact .inr (.inl a))))).trans mQ (λg a=> .inl (E g (by rcases a with a|a;exact .inr (.inr (.inl a));exact .inr (.inr (.inr (.inl a))))));have HF:(dJ w V3 q A p r s N):=⟨A,⟨F,P,F2,X,O,S,c,v1,v2,v3,v4,ss,_,rs,_,gW,wu.more (by omega),E,by omega,by rw [List.length_set];omega,by omega⟩,mE,λ_ h=> .inl h⟩;clear fb bz aV iU lW mQ gW wu mE;go_wp2;go_ret;exact⟨by simp,HF⟩
  .by_cases qs:J.T.state I.G S=0
   .obtain⟨L9,cZ,jO,AJ,uE,iU,nY⟩:=nW U.inv.p6 U.inv.pO (fH.pw.EF D) (fH.pw.K6 Q D) (fH.rw.jI Y) (fH.rw.oV H Br) (U.cs R (gu Y));have hi:(ss.map (λI=>I.G.L))[J.i]? =some I.G.L:=(by rw [Bd,D];rfl);have WJ:∀q∈I.G.ov,I.G.y.home+q.1<s/\q.2.length=512/\Bytes q.2:=λx v=>by
     have a1:=jO.kb x v;have a2:=jO.hs;exact⟨by omega,(jO.ch.len x v).2⟩
    have BE:I.G.L.f+2+I.G.L.n<=I.G.y.home:=(by have:=uE.lh;rw [k3] at this;exact this);have dP:=λhu=>by
     obtain⟨hd,hb⟩:=C6 hu;obtain⟨ha,hf⟩:=Lb hd;exact((U.inv.al I.G.L (gu hi) ha hf).1 hb).2
    obtain⟨f1,hinv,dI,mO,f5⟩:=BR (T:=J.T) U.inv hi jO.bg WJ jO.ch.small BE (λx v=>(AJ.ch.len x v).2.2) qs;have EG:=K3 (T:=J.T) (G:=I.G) (S:=S) (s:=s) (λx v=>(WJ x v).1) (by have:=jO.lk.n1;omega) (by have:=jO.lk.s;omega);have ZE:J.T.puts.length<=16:=by
     have a1:=iU.pu (by rw [k2];exact mO);have a3:=iU.D6;rw [<-k2,a1,(p9 (ms:= []) rD iU.nd (λ_ _=>rfl))];show 0+_<=_;omega
    have VD:=U.ct J.i R K Y (gu H) k1 (by rw [k2];exact mO);have D4:=Kv jO AJ ZE cZ (by omega);have HCm:=(λ(C:World) (F3:Nat->Prop) (S':DS) (c2:Nat) (WK:List PI) (ts2:List PT) (hw:W5 C q F3 P F2 X O p r s S' S c2 v1 v2 v3 v4 WK ts2 rs us)=>Hf hw.rw.e (hw.rw.jI Y) (hw.rw.oV H Br) (hw.rw.r3 R (gu Y) K (gu H)) cZ (by rw [k3];exact dP) (by omega) (by omega));have Bc:=hinv;have aaZ:=dI;rw [k3,k2] at HCm;unfold RR at D4;unfold gX at HCm;have hPu:(J.T.bF I.G S s).2.2.2.ended=J.T.ended/\(J.T.bF I.G S s).2.2.1.busy=I.G.busy\/J.T.ended=false/\(J.T.bF I.G S s).2.2.2.ended=true/\(J.T.bF I.G S s).2.2.1.busy=false:=f5.imp (λh=>⟨by rw [h.1],h.2⟩) (λh=>⟨mO,by rw [h.1];rfl,h.2⟩);clear hinv dI WJ BE dP uE cZ iU f5 qs ZE;generalize J.T.bF I.G S s=Cm at*;go_wp2_with fail;refine D4.mono ?_;rintro e C ⟨rfl,⟨kZ,Af⟩,aX⟩;obtain⟨_,_,_,⟨pq,pl,pm⟩,_⟩:=fH.pw.st I (gu D);obtain⟨_,_,_,_,⟨pt,pn'⟩,_⟩:=fH.pw.tx J (gu Q);have i8:=fH.pw.on D Q rfl (G':=Cm.2.2.1) (T':=Cm.2.2.2) f1 (λg h=>h) kZ Af.tx Af.ch Af.kb (aX.mono (λg a=>by rcases a with a|a|a|a|a|a;exact .inl a;exact .inr (.inr (.inl a));exact .inr (.inr (.inr (.inl a)));exact .inr (.inr (.inr (.inr (.inl a))));exact .inr (.inr (.inr (.inr (.inr a))));exact .inr (.inl a)));have oQ:aa (λg=>F g\/P g) V C:=aX.mono (λg a=>by rcases a with a|a|a|a|a|a;exact .inl a;exact .inr (a▸pl);exact .inr (a▸pm);exact .inr (a▸pt);exact .inr (a▸pn');exact .inr (a▸pq));have gY:=fH.prog i8 oQ (λg h=>h) (fV (f:=λI:PI=>pV I.q) D rfl) (fV (f:=λJ:PT=>pV J.t) Q rfl);have fb:=HCm C _ _ _ _ _ gY;have eV:=gY;have gQ:=oQ;clear D4 kZ Af aX i8 oQ gY jO AJ;go_wp2_with fail;refine fb.mono ?_;rintro e V3 ⟨F4,X4,pv',ZY,hm',rfl,hF4,hX4,hX5,xS,EI,Iz,⟨gZ,iR⟩,TX,aV⟩;have uE:=eV.rw.jI Y;have iU:=eV.rw.oV H Br;have lW:=eV.rw.on Y H k1 (I':={R with G:=Cm.2.2.1,pv:=pv',ps:=ZY,hm:=hm'}) (J':={K with T:=Cm.2.2.2}) rfl rfl (f1.trans (by rw [k3])) rfl rfl xS hX5 hX4 EI Iz TX (.inl rfl) (λg a v=>by
     rcases TX with TX|TX
     .have Rh:pv'.ownBlock=some g:=a;rw [TX] at Rh;exact eV.rw.r3 R (gu Y) K (gu H) g Rh v
     .have a1:=TX g a;have a2:=eV.rw.lt g (iU.pl.row g v);omega) (aV.mono (λg a=>by rcases a with a|a|a|a|a;exact .inl a;exact .inr (.inl a);exact .inr (.inr (.inl a));exact .inr (.inr (.inr (.inl a)));exact .inr (.inr (.inr (.inr (.inl a)))))) (aaZ.imp id (λh n M hM dG=>by
     obtain⟨A',hA'⟩:∃A',ss[n]? =some A':=⟨ss[n]'(by rw [<-U.sl];exact(mG.1 hM).1),List.getElem?_eq_getElem _⟩;have:=h n A'.G.L (by rw [Bd,hA'];rfl) dG;rw [U.sg n A' M hA' hM];exact this))
    have mQ:aa (λg=>F2 g\/X g) C V3:=aV.mono (λg a=>by rcases a with a|a|a|a|a;exact .inl a;exact .inr (a▸uE.xk);exact .inr (a▸uE.xl);exact .inr (a▸iU.xt);exact .inr (uE.pl.row g a));have wu:=U.upd (I':={I with G:=Cm.2.2.1}) (R':={R with G:=Cm.2.2.1,pv:=pv',ps:=ZY,hm:=hm'}) (J':={J with T:=Cm.2.2.2}) (K':={K with T:=Cm.2.2.2}) (M:=N+2) D Y Q H rfl rfl rfl rfl rfl rfl rfl hPu (by omega) (by rw [List.map_set];exact Bc.more (by omega)) (by show ZY.length<=_;omega) (λhe=>by
     have a1:=iR he;subst a1;show R.ps.length+K.us.length<=_;omega) (.inr mO) EG
    have mE:=((aa.ah A ux).trans gQ (λg a=> .inl (E g (by rcases a with a|a;exact .inl a;exact .inr (.inl a))))).trans mQ (λg a=> .inl (E g (by rcases a with a|a;exact .inr (.inr (.inl a));exact .inr (.inr (.inr (.inl a))))));have ef:=ux.size;have ju:=gQ.size;have HF:(dJ w V3 q A p r s N):=⟨λg=>A g\/w.heap.size<=g,⟨more F V C,P,F4,X4,O,_,c+40,v1,v2,v3,v4,_,_,_,_,eV.doc lW mQ hF4 hX4 (fV (f:=λI:RI=>pV I.k) Y rfl) (fV (f:=λJ:RJ=>pV J.u) H rfl),wu,λg a=>(by
     rcases a with (a|a)|a|a|a|a
     .exact .inl (E g (.inl a))
     .exact .inr (by omega)
     .exact .inl (E g (.inr (.inl a)))
     .rcases hF4 g a with a|a
      .exact .inl (E g (.inr (.inr (.inl a))))
      .exact .inr (by omega)
     .rcases hX4 g a with a|a
      .exact .inl (E g (.inr (.inr (.inr (.inl a)))))
      .exact .inr (by omega)
     .exact .inl (E g (.inr (.inr (.inr (.inr a)))))),by rw [List.length_set];omega,by rw [List.length_set];omega,by omega⟩,mE,λ_ h=>h⟩
    clear fb hF4 hX4 hX5 xS EI Iz gZ iR TX aV lW mQ wu mE;go_wp2;go_ret;exact⟨by simp,HF⟩
   .have D4:=OT (fH.pw.EF D) (fH.pw.K6 Q D) qs;have Lm:=λ(C:World) (hb:bW V C)=>Lc (fH.later hb).rw.e ((fH.later hb).rw.jI Y) ((fH.later hb).rw.oV H Br) (by rw [k2,k3];exact qs);rw [k2,k3] at Lm;have Om:=Lm;clear Lm qs;go_wp2_with fail;refine bE D4 λC aW=>?_;have fb:=Om C aW;have dE:=aW;clear D4 aW;go_wp2_with fail;refine bE fb λV3 bz=>?_;have fS:=dE.trans (bz.mono dE.size);clear fb bz;go_wp2;go_ret;exact⟨by simp,dJ.idle (fH.later fS) U E h1 h2 hc (ux.trans (fS.mono ux.size))⟩
  .have oz:=NU (fH.pw.EF D) (fH.pw.K6 Q D);have HAb:=(λ(C:World) (G2:SG) (WK:List PI) (ts2:List PT) (hw:W5 C q F P F2 X O p r s S S c v1 v2 v3 v4 WK ts2 rs us)=>Ko hw.rw.e (hw.rw.jI Y) (hw.rw.oV H Br).tx);have ak1:(J.T.abort I.G S).2.2.y=I.G.y/\(J.T.abort I.G S).2.2.L=I.G.L/\(J.T.abort I.G S).2.2.ov=I.G.ov/\((J.T.abort I.G S).2.1.puts=J.T.puts\/(J.T.abort I.G S).2.1.puts= [])/\(((J.T.abort I.G S).2.1=J.T/\(J.T.abort I.G S).2.2.busy=I.G.busy)\/(J.T.ended=false/\(J.T.abort I.G S).2.1.ended=true/\(J.T.abort I.G S).2.2.busy=false)):=by
    unfold TG.abort;by_cases qo:J.T.bX I.G S≠0
    .rw [aE qo];exact⟨rfl,rfl,rfl, .inl rfl, .inl ⟨rfl,rfl⟩⟩
    .rw [aA qo];refine⟨rfl,rfl,rfl, .inr rfl, .inr ⟨?_,rfl,rfl⟩⟩;unfold TG.bX at qo;cases he:J.T.ended
     .rfl
     .rw [he] at qo;exfalso;apply qo;split <;> decide
   rw [k2,k3] at HAb;obtain⟨f1,f2,f3,f4,f5⟩:=ak1;generalize J.T.abort I.G S=Ab at*;go_wp2_with fail;refine oz.mono ?_;rintro e C ⟨rfl,aW,B7,bo,I2⟩;have jO:=fH.pw.EF D;have AJ:=fH.pw.K6 Q D;obtain⟨_,_,_,⟨pq,pl,pm⟩,_⟩:=fH.pw.st I (gu D);obtain⟨_,_,_,_,⟨pt,pn'⟩,_⟩:=fH.pw.tx J (gu Q);have kZ:ig C F p s c I.q I.l I.m S Ab.2.2:=⟨jO.d.au I2 (λg a v=>by rcases v with v|v|v;exact AJ.nt (v▸a);exact AJ.nn (v▸a);exact jO.nq (v▸a)),by rw [f1];exact bo,by rw [f2];exact jO.lp.au I2 (λv=>by rcases v with v|v|v;exact AJ.tl v.symm;exact AJ.nl v.symm;exact jO.ql v.symm),by rw [f3];exact jO.ch.au I2 (λv=>by rcases v with v|v|v;exact AJ.tm v.symm;exact AJ.nm v.symm;exact jO.qm v.symm),jO.nq,jO.nl,jO.nm,jO.ql,jO.qm,jO.lm,by rw [f2];exact jO.lk,by rw [f2];exact jO.bg,by rw [f1];exact jO.hs,by rw [f3,f1];exact jO.kb⟩;have i8:=fH.pw.on D Q rfl (G':=Ab.2.2) (T':=Ab.2.1) f1 (λg a=> .inl a) kZ aW B7 (λx v=>by
    rw [f1];rcases f4 with f4|f4
    .rw [f4] at v;exact AJ.kb x v
    .rw [f4] at v;cases v) (I2.mono (λg a=>by rcases a with a|a|a;exact .inr (.inr (.inr (.inr (.inl a))));exact .inr (.inr (.inr (.inr (.inr a))));exact .inr (.inl a)))
   have oQ:aa (λg=>F g\/P g) V C:=I2.mono (λg e=> .inr (by rcases e with e|e|e;exact e▸pt;exact e▸pn';exact e▸pq));have gY:=fH.prog i8 oQ (λg a=> .inl a) (fV (f:=λI:PI=>pV I.q) D rfl) (fV (f:=λJ:PT=>pV J.t) Q rfl);have fb:=HAb C Ab.2.2 _ _ gY;have eV:=gY;have gQ:=oQ;clear oz aW B7 bo I2 kZ i8 oQ gY jO;go_wp2_with fail;refine fk fb λV3 bz aV=>?_;have iU:=eV.rw.oV H Br;have lW:=eV.rw.K9 Br H (K':={K with T:=Ab.2.1}) rfl rfl (λg h=>h) (λg h=> .inl h) ⟨bz,iU.xt,iU.pl.other iU.tx (by decide) (by decide) aV,iU.nd,λhe=>(by
    show Ab.2.1.puts=_;rcases f5 with ⟨f6,_⟩|⟨_,f6,_⟩
    .rw [f6,<-k2];exact iU.pu (by rw [k2,<-f6];exact he)
    .have Yl:Ab.2.1.ended=false:=he;rw [f6] at Yl;cases Yl),iU.kb,iU.D6⟩ (.inl rfl) (aV.mono (λ_ h=> .inl h)) (λg a=>iP (eV.rw.lt g a) aV.size)
   have mQ:aa (λg=>F2 g\/X g) C V3:=aV.mono (λg e=> .inr (e▸iU.xt));have gW:=eV.doc (lW.reG (G':=Ab.2.2) Y (by rw [f1,k3]) (by rw [f2,k3]) (by rw [f3,k3])) mQ (λg h=> .inl h) (λg h=> .inl h) (fV (f:=λI:RI=>pV I.k) Y rfl) (fV (f:=λJ:RJ=>pV J.u) H rfl);have nY:=U.cs R (gu Y);have Yo:(ss.set J.i {I with G:=Ab.2.2}).map (λI=>I.G.L)=ss.map (λI=>I.G.L):=by
    rw [List.map_set];apply mD;rw [Bd,D];show some I.G.L=some Ab.2.2.L;rw [f2]
   have wu:=U.upd (I':={I with G:=Ab.2.2}) (R':={R with G:=Ab.2.2}) (J':={J with T:=Ab.2.1}) (K':={K with T:=Ab.2.1}) (M:=N+2) D Y Q H rfl rfl rfl rfl rfl rfl rfl (f5.imp (λh=>⟨by show Ab.2.1.ended=_;rw [h.1],h.2⟩) id) (by omega) (by rw [Yo];exact U.inv.more (by omega)) (by show R.ps.length<=_;omega) (λhe=>by
    rcases f5 with ⟨f6,_⟩|⟨_,f6,_⟩
    .have:=U.ct J.i R K Y (gu H) k1 (by rw [k2,<-f6];exact he);show R.ps.length+K.us.length<=_;omega
    .have Yl:Ab.2.1.ended=false:=he;rw [f6] at Yl;cases Yl) (.inl rfl) rfl
   have mE:=((aa.ah A ux).trans gQ (λg a=> .inl (E g (by rcases a with a|a;exact .inl a;exact .inr (.inl a))))).trans mQ (λg a=> .inl (E g (by rcases a with a|a;exact .inr (.inr (.inl a));exact .inr (.inr (.inr (.inl a))))));have HF:(dJ w V3 q A p r s N):=⟨A,⟨F,P,F2,X,O,S,c,v1,v2,v3,v4,_,_,_,_,gW,wu,E,by rw [List.length_set];omega,by rw [List.length_set];omega,by omega⟩,mE,λ_ h=> .inl h⟩;clear fb bz aV iU lW mQ gW wu mE Yo AJ;go_wp2;go_ret;exact⟨by simp,HF⟩
  .have E8:=GT (fH.pw.EF D).st (fH.pw.K6 Q D);have Om:=(λ(C:World) (hb:bW V C)=>aF ((fH.later hb).rw.jI Y).st ((fH.later hb).rw.oV H Br).tx);go_wp2_with fail;refine bE E8 λC aW=>?_;obtain⟨bo,R6⟩:=Om C aW;rw [k3] at bo;have lj:=aI C (.cells #[.int .i64 (I.G.y.log:Int), .int .i64 (I.G.y.home:Int), .int .i64 (I.G.y.blocks:Int), .int .i64 (I.G.y.nodes:Int), .int .i64 (I.G.y.data:Int)] 86);have LV:=heap_alloc_new C (.cells #[.int .i64 (I.G.y.log:Int), .int .i64 (I.G.y.home:Int), .int .i64 (I.G.y.blocks:Int), .int .i64 (I.G.y.nodes:Int), .int .i64 (I.G.y.data:Int)] 86);have s0:=(R6.au (aa.ah (λ_=>False) lj) (λh=>h)).c0;have fB:=bo.later lj;have dE:=(aW.trans (lj.mono aW.size));clear E8 aW bo R6;go_wp2_with fail;generalize C.alloc (.cells #[.int .i64 (I.G.y.log:Int), .int .i64 (I.G.y.home:Int), .int .i64 (I.G.y.blocks:Int), .int .i64 (I.G.y.nodes:Int), .int .i64 (I.G.y.data:Int)] 86)=V3 at*;have HS:((λw':World=>w'.cell? (aD K.u 0)=some (pQ R.k)/\w'.cell? (aD C.heap.size 0)=some (iV (I.G.y.log:Int))/\w'.cell? (aD C.heap.size 1)=some (iV (I.G.y.home:Int))/\w'.cell? (aD C.heap.size 2)=some (iV (I.G.y.blocks:Int))/\w'.cell? (aD C.heap.size 3)=some (iV (I.G.y.nodes:Int))/\w'.cell? (aD C.heap.size 4)=some (iV (I.G.y.data:Int))/\w'.cell? (aD R.k 2)=some (iV (I.G.y.log:Int))/\w'.cell? (aD R.k 3)=some (iV (I.G.y.home:Int))/\w'.cell? (aD R.k 4)=some (iV (I.G.y.blocks:Int))/\w'.cell? (aD R.k 5)=some (iV (I.G.y.nodes:Int))/\w'.cell? (aD R.k 6)=some (iV (I.G.y.data:Int))) V3):=⟨s0,aL LV,bD LV,bH LV,fI LV,gz LV,fB.c2,fB.c3,fB.c4,fB.c5,fB.c6⟩;clear fB lj LV s0;go_region_held3 (λw'=>w'.cell? (aD K.u 0)=some (pQ R.k)/\w'.cell? (aD C.heap.size 0)=some (iV (I.G.y.log:Int))/\w'.cell? (aD C.heap.size 1)=some (iV (I.G.y.home:Int))/\w'.cell? (aD C.heap.size 2)=some (iV (I.G.y.blocks:Int))/\w'.cell? (aD C.heap.size 3)=some (iV (I.G.y.nodes:Int))/\w'.cell? (aD C.heap.size 4)=some (iV (I.G.y.data:Int))/\w'.cell? (aD R.k 2)=some (iV (I.G.y.log:Int))/\w'.cell? (aD R.k 3)=some (iV (I.G.y.home:Int))/\w'.cell? (aD R.k 4)=some (iV (I.G.y.blocks:Int))/\w'.cell? (aD R.k 5)=some (iV (I.G.y.nodes:Int))/\w'.cell? (aD R.k 6)=some (iV (I.G.y.data:Int))) (exact HS) (fail);go_wp2;go_ret;exact⟨by simp,dJ.idle (fH.later dE.drew) U E h1 h2 hc (ux.trans (dE.drew.mono ux.size))⟩
end
end
section
section
variable {w w':World} {q:Nat} {F P F2 X O A:Nat->Prop} {p r s c N:Nat} {S:DS} {v1 v2 v3 v4:Value} {ss:List PI} {ts:List PT} {rs:List RI} {us:List RJ}
theorem EJ (h:W5 w q F P F2 X O p r s S S c v1 v2 v3 v4 ss ts rs us) (hl:Lk S s N ss ts rs us) (C:∀g,(F g\/P g\/F2 g\/X g\/O g)->A g) (mc:∀g,A g->g<w.heap.size) (h1:ss.length<=N) (h2:ts.length<=N) (hc:c<=5000*N) (hN:N<=3999999990000) (Y U AA BB:Int) (da:Option Addr) (dn dc:Nat) (pa:Option Addr) (pn pc:Nat) (x y z:Int) (AD:U<=9223372036854775807) (Ep:Y=3\/Y=10\/Y=11):
  Calls prog 31 #[pV q, .agg (iO Y U AA BB da dn dc pa pn pc x y z)] w λe w'=>e= .returned (.bool true)/\dJ w w' q A p r s N:=by
 obtain⟨W,hW⟩:=bQ (w.alloc (.cells (iO Y U AA BB da dn dc pa pn pc x y z) 41));have EB:bW w W:=by rw [hW];exact(bi w.heap.size w).alloc (bP _) _
 have BP:W.heap[w.heap.size]? =some (.cells (iO Y U AA BB da dn dc pa pn pc x y z) 41 (0,0)):=by rw [hW];exact heap_alloc_new _ _
 have Hv:W.heap.size=w.heap.size+1:=by rw [hW,World.size_alloc]
 have tW:¬A w.heap.size:=λo=>by have:=mc _ o;omega
 obtain⟨a3,c3,hv3⟩:=AB h.o1;have To:=h.later EB;have d0:W.cell? (aD w.heap.size 0)=some (iV Y):=aL BP;have d1:W.cell? (aD w.heap.size 1)=some (iV U):=bD BP;have e4:=To.c2;have sd:=λk=>Az (W.drewN k) ss.length U AD (by omega);obtain⟨HW,D,CQ,Mp⟩:=cM To hl EB BP;rw [hv3] at e4;clear h hl To EB BP;go_in;go_wp2_with fail;rw [<-hW];clear hW;go_quiet (first|(go_at_call 73;refine Calls.quiet_of_same (sd _)));rename_i nq _;have hq:bW W (W.drewN nq):=below_drewN (bi _ _) nq;have fH:=(HW.later hq);have ux:=(CQ.trans (hq.mono (by omega)));have X3:(W.drewN nq).heap.size=w.heap.size+1:=Hv;have Uu:=((hq.block w.heap.size (by omega)).trans Mp);clear HW CQ Mp sd hq d0 d1 e4 Hv;generalize W.drewN nq=V at*;have dV0:V.cell? (aD w.heap.size 0)=some (iV Y):=aL Uu;have dV2:V.cell? (aD w.heap.size 2)=some (iV AA):=bH Uu;have e4:=fH.c2;have e5:=fH.c3;by_cases q0:ss.length=0
 .have fo:bk ss.length U= -1:=by unfold bk;rw [aE q0]
  rw [fo];go_wp2;go_ret;exact⟨rfl,dJ.idle fH D C h1 h2 hc ux⟩
 .obtain⟨j,hj,Yd⟩:=Tn (show 0<ss.length by omega) U;rw [Yd];have YQ:¬(j:Int)<0:=by omega
  have Yt:(j:Int)<(ss.length:Int):=by omega
  obtain⟨I,H⟩:∃I,ss[j]? =some I:=⟨ss[j],List.getElem?_eq_getElem hj⟩;obtain⟨R,E⟩:∃R,rs[j]? =some R:=⟨rs[j]'(by rw [D.sl];exact hj),List.getElem?_eq_getElem _⟩;have Q:=D.sg j I R H E;obtain⟨g3,cp3,Tp,t3⟩:=vC (i:=j) fH.o1 (by rw [Bd,H];rfl);obtain⟨g4,cp4,Tq,t4⟩:=vC (i:=j) fH.o2 (by rw [Bd,E];rfl);rw [Tp] at e4;rw [Tq,D.sl] at e5;clear Yd q0;rcases Ep with rfl|rfl|rfl
  .have Fg:=fH.under;by_cases hz:I.G.begin S=0
   .have hbz:=Le hz;have vm:=(sE (fH.pw.EF H)).mono (λe w' h=>by unfold sD at h;rw [aA (λh=>h hz)] at h;exact h);have Wg:=(λ(v:World) (WK:List PI) (J:W5 v q F P F2 X O p r s S S c v1 v2 v3 v4 WK ts rs us)=>(zN (G:=I.G) J.rw.e (by rw [<-Q];exact(J.rw.jI E).st) (by rw [<-Q];exact(J.rw.jI E).lp) (J.nowAt D H E)).mono (λe w' h=>by unfold xK at h;rw [aA (λh=>h hz)] at h;exact h));clear hz;go_wp2_with fail;refine vm.mono ?_;rintro e v ⟨t,n,rfl,mg,R6,X1,Af,sG,kZ,aX⟩;obtain⟨_,_,_,⟨pq,pl,pm⟩,_⟩:=fH.pw.st I (gu H);have jO:=fH.pw.EF H;have TC:ig v F p s c I.q I.l I.m S {I.G with busy:=true}:=⟨jO.d.au aX (λg a e=>jO.nq (e▸a)),kZ,jO.lp.au aX (λe=>jO.ql e.symm),jO.ch.au aX (λe=>jO.qm e.symm),jO.nq,jO.nl,jO.nm,jO.ql,jO.qm,jO.lm,jO.lk,jO.bg,jO.hs,jO.kb⟩;have i8:=fH.pw.onS H (G':={I.G with busy:=true}) rfl (λg h=> .inl h) TC (aX.mono (λg e=> .inr (.inl e)));have oQ:aa (λg=>F g\/P g) V v:=aX.mono (λg e=> .inr (e▸pq));have gY:=fH.prog i8 oQ (λg h=> .inl h) (fV (f:=λI:PI=>pV I.q) H rfl) rfl;obtain⟨fb,eV,gQ,HT2,Zx,Ag,mN⟩:=nW (Wg v _ gY) gY oQ Af sG (aw Af) sG.lt;clear vm Af sG kZ aX jO TC i8 oQ gY;go_wp2_with fail;refine fb.mono ?_;rintro e T ⟨u,rfl,hu3,aa0,afF,aV⟩;have uE:=eV.rw.jI E;have hRk:=Fg _ (.inr (.inr (.inr (.inl uE.xk))));have lW:=eV.rw.onS E (I':={R with G:={I.G with busy:=true},nv:=pV u}) rfl rfl (by rw [Q]) (eV.rw.e.au aV (λg a e=>eV.rw.fD g (e▸uE.xk) a)) (by
     have a:=uE;rw [Q] at a;exact⟨afF,a.lp.au aV (λe=>cU a.lp a.st (by decide) e),a.pl.au aV (λg e o=>a.pl.ne e a.st (by decide) o) (λg c ys o hr e=>hr.ne a.st (by decide) e),a.xk,a.xl,a.fD,λg o=>iP (a.lt g o) aV.size,a.lk,a.bg,a.hs,a.lh,a.ov,a.hm,a.kb,a.un⟩) rfl (aV.mono (λg e=> .inr (.inl e))) (.inl rfl)
    have mQ:aa (λg=>F2 g\/X g) v T:=aV.mono (λg e=> .inr (e▸uE.xk));have gW:=eV.doc lW mQ (λg h=> .inl h) (λg h=> .inl h) (fV (f:=λI:RI=>pV I.k) E rfl) rfl;obtain⟨Iz,hul,z1,z2⟩:=cM ((aV.block t Ag (λe=>by omega)).trans HT2) aa0.lt gQ.size aV.size;have lI:∀g,V.heap.size<=g->¬(F g\/P g\/F2 g\/X g\/O g):=λg a o=>by have:=Fg g o;omega
    obtain⟨g4',DU,V4,vX,Oa,su,dV⟩:=gW.afh (gW.pw.aaK (I:={I with G:={I.G with busy:=true}}) (List.getElem?_set_self hj) Iz (Zx.au aV (λe=>by omega)) (λo=>lI t R6 (.inr (.inl o))) (λo=>lI n mg (.inr (.inl o))) (λo=>lI t R6 (.inl o)) (λo=>lI n mg (.inl o))) (λg a o=>by
     rcases a with a|a|a
     .rcases o with o|o|o
      .exact gW.ad g (.inr a) (.inl o)
      .exact gW.ad g (.inr a) (.inr o)
      .exact gW.oa g o (.inr a)
     .exact lI g (by omega) (.inr (.inr o))
     .exact lI g (by omega) (.inr (.inr o))) (by omega)
    have hc4:=gW.c4;have q4:=gz Oa;have f4:=ae Oa 4;obtain⟨V5,hV5⟩:=bQ (V4.setCell ⟨q,4,none⟩ (.slice (some ⟨g4',0,none⟩) (ts.length+1) DU));have OU:V5.heap.size=V4.heap.size:=(by rw [hV5];simp);rw [<-hV5] at su dV;have hrT:=su.rw.aaK (I:={R with G:={I.G with busy:=true},nv:=pV u}) (List.getElem?_set_self (by rw [D.sl];exact hj)) (aa0.au dV (λo=>lI u (by omega) (.inr (.inr (.inr (.inr o)))))) (λo=>lI u (by omega) (.inr (.inr (.inr (.inl o))))) (λo=>lI u (by omega) (.inr (.inr (.inl o))));obtain⟨g5',Gj,V6,nD,nH,Fe,ji⟩:=su.afi hrT (λg a o=>by
     rcases a with a|a
     .rcases o with o|o|o
      .exact su.ad g (.inl o) (.inr a)
      .exact su.ad g (.inr o) (.inr a)
      .exact su.od g o (.inr a)
     .rcases o with o|(o|o|o)|(o|o)
      .exact lI g (by omega) (.inl o)
      .exact lI g (by omega) (.inr (.inl o))
      .omega
      .omega
      .exact lI g (by omega) (.inr (.inr (.inr (.inr o))))
      .omega) (by have:=D.tl;omega)
    have hc5:=su.c5;have q5:=rU nH;have f5:=ae nH 5;rw [OU] at nD;rw [hV5] at nD hc5;have akW:=ux.size;have z4:=dV.size;have mE:=((((aa.ah A ux).trans gQ (λg a=> .inl (C g (by rcases a with a|a;exact .inl a;exact .inr (.inl a))))).trans mQ (λg a=> .inl (C g (by rcases a with a|a;exact .inr (.inr (.inl a));exact .inr (.inr (.inr (.inl a))))))).trans dV (λg a=> .inl (C g (.inr (.inr (.inr (.inr a))))))).trans ji (λg a=>by
     rcases a with a|a
     .exact .inl (C g (.inr (.inr (.inr (.inr a)))))
     .exact .inr (by omega))
    have HF:(dJ w (V6.setCell ⟨q,5,none⟩ (.slice (some ⟨g5',0,none⟩) (us.length+1) Gj)) q A p r s N):=⟨λg=>A g\/w.heap.size<=g,⟨_,_,_,_,_,_,c,_,_,_,_,_,_,_,_,Fe,(D.begun (t:=t) (n:=n) (u:=u) (tv:= .slice none 0 0) H E hbz).more (by omega),λg a=>(by
     rcases a with a|(a|a|a)|a|(a|a)|((a|a)|a)
     .exact .inl (C g (.inl a))
     .exact .inl (C g (.inr (.inl a)))
     .exact .inr (by omega)
     .exact .inr (by omega)
     .exact .inl (C g (.inr (.inr (.inl a))))
     .exact .inl (C g (.inr (.inr (.inr (.inl a)))))
     .exact .inr (by omega)
     .exact .inl (C g (.inr (.inr (.inr (.inr a)))))
     .exact .inr (by omega)
     .exact .inr (by omega)),by rw [List.length_set];omega,by rw [dT];show ts.length+1<=_;omega,by omega⟩,mE,λ_ h=>h⟩
    have G0:=vX;have G1:=nD;clear fb aa0 afF aV uE lW mQ gW Iz lI vX Oa su dV hrT nD nH Fe ji mE;go_wp2_with (at_builtin;first|refine bj rfl _ _ 32 rfl v3 (.slice (some (aD T.heap.size 0)) 1 1) _ rfl rfl G0 ?_|refine bj rfl _ _ 33 rfl v4 (.slice (some (aD V4.heap.size 0)) 1 1) _ rfl rfl G1 ?_);go_wp2;go_ret;exact⟨rfl,HF⟩
   .have vm:=(sE (fH.pw.EF H)).mono (λe w' h=>by unfold sD at h;rw [aE hz] at h;exact h);have Wg:=(λ(v:World) (WK:List PI) (J:W5 v q F P F2 X O p r s S S c v1 v2 v3 v4 WK ts rs us)=>(zN (G:=I.G) J.rw.e (by rw [<-Q];exact(J.rw.jI E).st) (by rw [<-Q];exact(J.rw.jI E).lp) (J.nowAt D H E)).mono (λe w' h=>by unfold xK at h;rw [aE hz] at h;exact h));clear hz;generalize I.G.begin S=cd at*;go_wp2_with fail;refine fk vm λv _ aW=>?_;have gY:=fH.later aW;have fb:=Wg v _ gY;have dE:=aW;have eV:=gY;clear vm aW gY;go_wp2_with fail;refine fk fb λT _ bz=>?_;have HF:=(dJ.idle (eV.later bz) D C h1 h2 hc (ux.trans ((dE.trans (bz.mono dE.size)).mono ux.size)));clear fb bz;go_wp2;go_ret;exact⟨by simp,HF⟩
  .have L9:=D.inv.p6;have HSy:=(λ(v:World) (S':DS) (J:W5 v q F P F2 X O p r s S' S c v1 v2 v3 v4 ss ts rs us)=>Kp J.rw.e (J.rw.jI E) (by omega));rw [Q] at HSy;go_wp2_with fail;refine(N0 (fH.pw.EF H) (by omega)).mono ?_;rintro e v ⟨rfl,kZ,aX⟩;have i8:=fH.pw.lA (λg h=> .inl h) kZ.d aX;have oQ:aa (λg=>F g\/P g) V v:=aX.mono (λg h=> .inl h);have gY:=fH.prog i8 oQ (λg h=> .inl h) rfl rfl;have fb:=HSy v _ gY;have eV:=gY;have gQ:=oQ;clear kZ aX i8 oQ gY;go_wp2_with fail;refine fk fb λT xS aV=>?_;have lW:=eV.rw.lA (λg h=> .inl h) xS aV (λM hM hd=>by
    obtain⟨a1,a2⟩:=OS D.inv.ok I.G.L M.G.L hd;refine⟨a1,λb hb=>a2 _ ?_⟩;have:=(eV.rw.st M hM).hs;omega)
   have mQ:aa (λg=>F2 g\/X g) v T:=aV.mono (λg h=> .inl h);have gW:=eV.doc lW mQ (λg h=> .inl h) (λg h=> .inl h) rfl rfl;have mE:=((aa.ah A ux).trans gQ (λg a=> .inl (C g (by rcases a with a|a;exact .inl a;exact .inr (.inl a))))).trans mQ (λg a=> .inl (C g (by rcases a with a|a;exact .inr (.inr (.inl a));exact .inr (.inr (.inr (.inl a))))));have HF:(dJ w T q A p r s N):=⟨A,⟨F,P,F2,X,O,_,c,v1,v2,v3,v4,_,_,_,_,gW,D.synced H,C,by omega,by omega,by omega⟩,mE,λ_ h=> .inl h⟩;clear fb xS aV lW mQ gW mE;go_wp2;go_ret;exact⟨by simp,HF⟩
  .obtain⟨L9,cZ,jO,uE,nY⟩:=ey D.inv.p6 D.inv.pO (fH.pw.EF H) (fH.rw.jI E) (D.cs R (gu E));have hi:(ss.map (λI=>I.G.L))[j]? =some I.G.L:=(by rw [Bd,H];rfl);have WJ:∀q∈I.G.ov,I.G.y.home+q.1<s/\q.2.length=512/\Bytes q.2:=λx o=>by
    have a1:=jO.kb x o;have a2:=jO.hs;exact⟨by omega,(jO.ch.len x o).2⟩
   have BE:I.G.L.f+2+I.G.L.n<=I.G.y.home:=(by have:=uE.lh;rw [Q] at this;exact this);have dP:=λhu=>by
    obtain⟨hd,hb⟩:=C6 hu;obtain⟨ha,hf⟩:=Lb hd;exact((D.inv.al I.G.L (gu hi) ha hf).1 hb).2
   have dI:=Is D.inv hi (λx o=>⟨(WJ x o).1,(WJ x o).2.1⟩);have XN:=mz I.G S s;have EG:=Iq (G:=I.G) (S:=S) (s:=s) (λx o=>(WJ x o).1) (by have:=jO.hs;omega);have ie:=AF I.G S s;have nc:=CJ jO cZ (by omega);have Z:=(λ(v:World) (F3:Nat->Prop) (S':DS) (c2:Nat) (WK:List PI) (J:W5 v q F3 P F2 X O p r s S' S c2 v1 v2 v3 v4 WK ts rs us)=>Aj J.rw.e (J.rw.jI E) cZ (by rw [Q];exact dP) (by omega) (by omega));have Bc:=D.inv.check hi jO.bg WJ jO.ch.small BE;have aaZ:=dI;unfold ZW at Z;rw [Q] at Z;clear dI WJ BE dP uE cZ;generalize I.G.check S s=Ck at*;go_wp2_with fail;refine fk nc λv kZ aX=>?_;obtain⟨_,_,_,⟨pq,pl,pm⟩,_⟩:=fH.pw.st I (gu H);have i8:=fH.pw.onS H (G':=Ck.2.2) XN (λg h=>h) kZ (aX.mono (λg a=>by rcases a with a|a|a;exact .inl a;exact .inr (.inr (.inl a));exact .inr (.inr (.inr a))));have oQ:aa (λg=>F g\/P g) V v:=aX.mono (λg a=>by rcases a with a|a|a;exact .inl a;exact .inr (a▸pl);exact .inr (a▸pm));have gY:=fH.prog i8 oQ (λg h=>h) (fV (f:=λI:PI=>pV I.q) H rfl) rfl;have fb:=Z v _ _ _ _ gY;have eV:=gY;have gQ:=oQ;clear nc kZ aX i8 oQ gY jO;go_wp2_with fail;refine fb.mono ?_;rintro e T ⟨rfl,xS,⟨hm',EI⟩,aV⟩;have uE:=eV.rw.jI E;have lW:=eV.rw.onS E (I':={R with G:=Ck.2.2,hm:=hm'}) rfl rfl (XN.trans (by rw [Q])) xS EI rfl aV (aaZ.imp id (λh n K hK dG=>by
    obtain⟨A,C⟩:∃A,ss[n]? =some A:=⟨ss[n]'(by rw [<-D.sl];exact(mG.1 hK).1),List.getElem?_eq_getElem _⟩;have:=h n A.G.L (by rw [Bd,C];rfl) dG;rw [D.sg n A K C hK];exact this))
   have mQ:aa (λg=>F2 g\/X g) v T:=aV.mono (λg a=>by rcases a with a|a|a;exact .inl a;exact .inr (a▸uE.xk);exact .inr (a▸uE.xl));have gW:=eV.doc lW mQ (λg h=>h) (λg h=> .inl h) (fV (f:=λI:RI=>pV I.k) E rfl) rfl;have wu:=D.akE (I':={I with G:=Ck.2.2}) (R':={R with G:=Ck.2.2,hm:=hm'}) (M:=N+2) H E rfl rfl ie rfl (by omega) (by rw [List.map_set];exact Bc.more (by omega)) EG;have mE:=((aa.ah A ux).trans gQ (λg a=> .inl (C g (by rcases a with a|a;exact .inl a;exact .inr (.inl a))))).trans mQ (λg a=> .inl (C g (by rcases a with a|a;exact .inr (.inr (.inl a));exact .inr (.inr (.inr (.inl a))))));have ef:=ux.size;have ju:=gQ.size;have HF:(dJ w T q A p r s N):=⟨λg=>A g\/w.heap.size<=g,⟨more F V v,P,more F2 v T,X,O,_,c+2,v1,v2,v3,v4,_,_,_,_,gW,wu,λg a=>(by
    rcases a with (a|a)|a|(a|a)|a|a
    .exact .inl (C g (.inl a))
    .exact .inr (by omega)
    .exact .inl (C g (.inr (.inl a)))
    .exact .inl (C g (.inr (.inr (.inl a))))
    .exact .inr (by omega)
    .exact .inl (C g (.inr (.inr (.inr (.inl a)))))
    .exact .inl (C g (.inr (.inr (.inr (.inr a)))))),by rw [List.length_set];omega,by omega,by omega⟩,mE,λ_ h=>h⟩
   clear fb xS EI aV lW mQ gW wu mE;go_wp2;go_ret;exact⟨by simp,HF⟩
end
end
end Go.Proofs.YtenlkgicpllbhaaGreat
