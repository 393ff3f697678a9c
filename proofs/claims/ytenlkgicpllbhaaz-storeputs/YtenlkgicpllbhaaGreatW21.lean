import Derived.Test.YtenlkgicpllbhaaGreatW01
import Derived.Test.YtenlkgicpllbhaaGreatW19
import Derived.Test.YtenlkgicpllbhaaGreatW20
set_option maxRecDepth 20000
set_option maxHeartbeats 8000000
set_option linter.all false
namespace Go.Proofs.YtenlkgicpllbhaaGreat
open Go.Proofs.Tryz
open Go.RowKit Go.Maps
variable {y:Array Value} {x:Int} {ps:List (Nat×List Int)} {xs:List Value} {a c hm i k kl n u:Nat} {v:Nat×Nat} {Z:Nat->Prop} {G:SG} {T:TG} {α:Type} {e f:TypeId} {nv:Value}
section
section
variable {S S':DS} {s f:Nat} {L:LG} {G:SG}
theorem Ip (S:DS) {s:Nat} (h0:0<=x) (a:x<(s:Int)) (l:List Int):(S.wr s x 512 l).2.refused=S.refused:=by
 unfold DS.wr;split
 .rfl
 .rw [aA (by omega),aA (by decide)];rfl
theorem AW (S:DS) (s:Nat):(S.fl s).2.refused=S.refused:=by
 unfold DS.fl;split <;> rfl
theorem aaA (S:DS) (x:Int):(S.lay x).refused=S.refused:=by
 unfold DS.lay;split <;> rfl
theorem ED (S:DS) {s f:Nat} (b:f+1<s) (num:Int):(cW S s f num).2.refused=S.refused:=by
 have mL:=fL (S.now f) (S.now (f+1)) num [];unfold cW;split
 .rfl
 .split
  .rfl
  .have a:=Ip S (s:=s) (x:=(f:Int)+((aN (S.now f) (S.now (f+1)) num []).1:Int)) (by omega) (by omega) (aN (S.now f) (S.now (f+1)) num []).2.1;split
   .exact a
   .exact(AW _ _).trans a
theorem EE (L:LG) (S:DS) (s:Nat):(L.sync S s).2.refused=S.refused:=by
 unfold LG.sync;split
 .rfl
 .exact AW _ _
theorem Wy (c:L.f+1<s):(L.trim S s).2.1.refused=S.refused:=by
 have a:=EE L S s;have b:=ED (L.sync S s).2 c ((L.ep:Int)*4294967296+(L.head:Int));unfold LG.trim;split
 .exact a
 .split
  .exact a
  .split <;> exact b.trans a
theorem q9 {home:Nat}:∀{ms:CM} {S:DS},(∀q∈ms,home+q.1<s)->(sbring S s home ms).2.refused=S.refused
 | [],_,_=>rfl
 |q :: qs,S,h=>by
  have c:=h q (List.mem_cons_self ..);have a:=Ip S (s:=s) (x:=((home+q.1:Nat):Int)) (by omega) (by omega) q.2;unfold sbring;split
  .exact a
  .exact(q9 (λx b=>h x (List.mem_cons_of_mem _ b))).trans a
theorem Iq (d:∀q∈G.ov,G.y.home+q.1<s) (e:G.L.f+1<s):(G.check S s).2.1.refused=S.refused:=by
 have a:=EE G.L S s;have b:=(q9 (S:=(G.L.sync S s).2) d).trans a;have c:=(Wy (S:=(sbring (G.L.sync S s).2 s G.y.home G.ov).2) e).trans b;unfold SG.check;split
 .exact a
 .split
  .exact b
  .split <;> exact c
theorem sU {g:Nat->DS->Int×DS}:∀k,(∀j,j<k->∀T,(g j T).2.refused=T.refused)->(stepsTo S g k).2.refused=S.refused
 |0,_=>rfl
 |k+1,hg=>by
  have:=sU k (λj a=>hg j (by omega));unfold stepsTo;split
  .exact this
  .exact(hg k (by omega) _).trans this
theorem Wz {E P:Nat} {l:List Int} (a:1<=n) (b:f+2+n<=s):(jM S s f n E P i c l).2.refused=S.refused:=by
 have:=Nat.mod_lt P a;unfold jM;split
 .rfl
 .exact Ip S (by omega) (by omega) _
theorem OO {d:List Int} (b:1<=L.n) (c:L.f+2+L.n<=s):(L.append S s d).2.1.refused=S.refused:=by
 have a:(cP L S s d (cY d.length)).2.refused=S.refused:=sU _ (λ_ _ _=>Wz b c);unfold LG.append;split
 .rfl
 .split <;> exact a
theorem WA (L:LG) (S:DS) (s:Nat):(L.trim S s).2.2.f=L.f/\(L.trim S s).2.2.n=L.n:=by
 unfold LG.trim;split
 .exact⟨rfl,rfl⟩
 .split
  .exact⟨rfl,rfl⟩
  .split <;> exact⟨rfl,rfl⟩
theorem Te (G:SG) (S:DS) (s:Nat):(G.check S s).2.2.L.f=G.L.f/\(G.check S s).2.2.L.n=G.L.n:=by
 have h:=WA G.L (sbring (G.L.sync S s).2 s G.y.home G.ov).2 s;unfold SG.check;split
 .exact⟨rfl,rfl⟩
 .split
  .exact⟨rfl,rfl⟩
  .split <;> exact h
theorem OP {c:CM} (e:∀q∈G.ov,G.y.home+q.1<s) (g:1<=G.L.n) (i:G.L.f+2+G.L.n<=s):(G.bF S s c).2.1.refused=S.refused:=by
 have a:(G.made S s (co c).length).2.1.refused=S.refused/\(G.made S s (co c).length).2.2.L.f=G.L.f/\(G.made S s (co c).length).2.2.L.n=G.L.n:=by
  unfold SG.made;split
  .exact⟨rfl,rfl,rfl⟩
  .exact⟨Iq e (by omega),Te G S s⟩
 unfold SG.bF;split
 .rfl
 .split
  .exact a.1
  .have b:=OO (S:=(G.made S s (co c).length).2.1) (s:=s) (L:=(G.made S s (co c).length).2.2.L) (d:=co c) (by rw [a.2.2];exact g) (by rw [a.2.1,a.2.2];exact i);split <;> exact b.trans a.1
theorem K3 (a:∀q∈G.ov,G.y.home+q.1<s) (b:1<=G.L.n) (c:G.L.f+2+G.L.n<=s):(T.bF G S s).2.1.refused=S.refused:=by
 unfold TG.bF;split
 .rfl
 .split
  .rfl
  .split <;> exact OP a b c
theorem Tf (c:f+2+n<=s):(cK S s f n).2.refused=S.refused:=by
 have a:(bA S s f (n+2)).2.refused=S.refused:=sU _ (λj b T=>Ip T (by omega) (by omega) _);unfold cK;split
 .exact a
 .exact(AW _ _).trans a
theorem K4 (S:DS) (s:Nat) (f n:Int):(cy S s f n).2.refused=S.refused:=by
 unfold cy;split
 .rfl
 .rename_i d;obtain⟨_,a,b,rfl,rfl,oz,aq,aW⟩:=fM (Decidable.of_not_not d);simp only [Int.toNat_natCast];have c:(cK S.take s a b).2.refused=S.refused:=Tf oz;split
  .exact c
  .exact(ED _ (by omega) _).trans c
theorem Ir (e:a+n<=s):(eu S s a n).2.refused=S.refused:=by
 have b:=q9 (S:=S) (s:=s) (home:=a) (ms:=eK n) (λq c=>by
  unfold eK at c;obtain⟨i,d,rfl⟩:=List.mem_map.1 c;have:=List.mem_range.1 d;show a+i<s;omega)
 unfold eu;split
 .exact b
 .exact(AW _ _).trans b
theorem K5 (S:DS) (s:Nat) (a b c:Int):(bT S s a b c).2.refused=S.refused:=by
 unfold bT;split
 .rfl
 .split
  .rename_i i;obtain⟨o8,k⟩:=i;obtain⟨⟨l,m⟩,⟨o,p⟩,j,s1,s2⟩:=o8;have d:(lZ S s).2.refused=S.refused:=Ir (S:=S.take) (by omega);have e:(mW S s).2.refused=S.refused:=(Ir (S:=(lZ S s).2) (s:=s) (a:=1) (n:=s-1) (by omega)).trans d;have f:(jJ S s b.toNat).2.refused=S.refused:=(K4 (mW S s).2 s 1 (b.toNat:Int)).trans e;have g:(l5 S s b.toNat c.toNat).2.refused=S.refused:=(Ip (jJ S s b.toNat).2 (s:=s) (x:=0) (by omega) (by omega) (gH s b.toNat c.toNat)).trans f;unfold ly;split
   .exact d
   .split
    .exact e
    .split
     .exact f
     .split
      .exact g
      .exact(AW _ _).trans g
  .rfl
theorem Tg (a:L.f+1<s):(L.start S s).2.1.refused=S.refused:=by
 unfold LG.start;split
 .rfl
 .split
  .rfl
  .split <;> exact ED _ a _
theorem Th (S:DS) (s:Nat) (f n:Int):(bu S s f n).2.refused=S.refused:=by
 unfold bu;split
 .rfl
 .split
  .rfl
  .split
   .rfl
   .exact AW _ _
theorem Ti {y:LY} {ov:CM} {rs:List (List Int)} (b:∀q∈ov,y.home+q.1<s):(ee S s y ov rs).2.refused=S.refused:=by
 have a:=q9 (S:=S) b;unfold ee;split
 .rfl
 .split
  .exact a
  .exact(AW _ _).trans a
theorem jP.rf (h:jP S s x S'):S'.refused=S.refused:=by
 rcases h with ⟨_,_,rfl⟩|⟨qv,d,k⟩
 .rfl
 .have uv:=kh qv;have a:=Th S s 1 (((cz (S.now 0)).log:Nat):Int);rcases k with ⟨_,_,rfl⟩|⟨e,rs,hd,Fl,k⟩
  .exact a
  .rcases k with ⟨_,_,rfl⟩|⟨ov,uF,k⟩
   .exact a
   .have Wx:=vB uF (λq b=>by cases b);have c:=(Ti (S:=(bu S s 1 (((cz (S.now 0)).log:Nat):Int)).2) (s:=s) (y:=cz (S.now 0)) (ov:=ov) (rs:=rs) (λq b=>by have:=(Wx q b).1;omega)).trans a;rcases k with ⟨_,_,rfl⟩|⟨_,_,rfl⟩
    .exact c
    .exact(Tg (by show 1+1<s;omega)).trans c
end
end
theorem OQ {w:World} {F:Nat->Prop} {p s:Nat} {S:DS} (h:B.ax w F p s S c) (cZ:S.fC) (aT:S.puts.length+6000<=4000000000000) (hf:S.fuse≠0) (qv:lT (S.now 0) s):
  Calls prog 18 #[pQ p] w λe w'=>SK w F p s c S e w':=by
 obtain⟨w1,bN⟩:=bQ ((w.alloc (.cells #[.pointer none] 53)).alloc (.cells #[.int .i64 0] 49));have bK:bW w w1:=by rw [bN];exact bY w _ _
 have rY:w1.heap.size=w.heap.size+2:=by rw [bN];simp
 have o8:w1.heap[w.heap.size]? =some (.cells #[.pointer none] 53 (0,0)):=by rw [bN];exact heap_alloc2_old _ _ _
 have fU:w1.heap[w.heap.size+1]? =some (.cells #[.int .i64 0] 49 (0,0)):=by rw [bN];exact heap_alloc2_new _ _ _
 have bm:=h.lt;have hly:=uo (h.later bK) cZ (by omega);have uv:=kh qv;clear h
 go_enter_defers func18,ntmps18
 go_wp2_with fail;rw [<-bN];clear bN;refine hly.mono ?_;rintro e w2 ⟨y,x,rfl,ox,cC,aX⟩;have ec:=aX.size;have rl:x=0/\y=cz (S.now 0):=by
  rcases ox with ⟨h1,_⟩|⟨_,_,h2,h3⟩|⟨_,h1,_⟩
  .exact absurd h1 hf
  .exact⟨h3,h2⟩
  .exact absurd qv h1
 obtain⟨rfl,XN⟩:=rl;rw [<-XN] at uv;have H:=yh XN;have Wo:=(aX.block w.heap.size (by omega) (λd=>by have:=bm _ d;omega)).trans o8;have Ia:=(aX.block (w.heap.size+1) (by omega) (λd=>by have:=bm _ d;omega)).trans fU;have HK:Yh (B.ax w2 F p s S (c+1)/\aa F w w2):=⟨cC,(aa.ah F bK).trans aX (λ_ h=> .inl h)⟩;have d0:=aL Ia;have e0:=ae Ia 0;have fy:w.heap.size+1<w2.heap.size:=by omega
 obtain⟨q,J,P,M,o5,o6⟩:=aeC bm fy Wo Ia HK.o.1 HK.o.2 0 (.cells #[.int .i64 (y.log:Int), .int .i64 (y.home:Int), .int .i64 (y.blocks:Int), .int .i64 (y.nodes:Int), .int .i64 (y.data:Int)] 86);clear hly ox cC aX XN
 dsimp only [Pr]
 go_upto_region 3 with fail
 generalize (w2.setCell ⟨w.heap.size+1,0,none⟩ (.int .i64 0)).alloc (.cells #[.int .i64 (y.log:Int), .int .i64 (y.home:Int), .int .i64 (y.blocks:Int), .int .i64 (y.nodes:Int), .int .i64 (y.data:Int)] 86)=w3 at*;have HW:=yh (aF q (aF J (aF P (aF M o5))));have I:=aj J (j:=0) (u:=iV 0) rfl;have l0:=aL P;have l7:=B.SJ M cZ 1 (y.log:Int) (by omega);clear q J P M o5 d0 e0 Wo Ia HK o8 fU bK;go_wp2_with fail;refine l7.mono ?_;rintro e w4 ⟨uw,K,dV⟩;clear l7 I l0;have vS:=dV.size;have aq:=(dV.block w.heap.size (by omega) (λd=>by have:=bm _ d;omega)).trans HW.o.1;have aW:=(dV.block (w.heap.size+1) (by omega) (λd=>by have:=bm _ d;omega)).trans HW.o.2.1;have bz:=(dV.block w2.heap.size (by omega) (λd=>by have:=bm _ d;omega)).trans HW.o.2.2.1;have BN:=HW.o.2.2.2.2.trans dV (λ_ h=> .inl h);have vi:=aal S s y.log;unfold J1 at uw;by_cases Z:(bu S s 1 (y.log:Int)).1=0
 .rw [aA (λh=>h Z)] at uw;obtain⟨l,v,rs,hd,rfl,jT,Tj⟩:=uw;obtain⟨q,J,P,M⟩:=aeD 0 (λk d=> .inl (bm k d)) aq aW K;have I:=aj aW (j:=0) (u:=iV 0) rfl;have Y:=ae aW 0;have arL:=Tj.p.lt;have OR:=(M.block w2.heap.size (by omega) (by omega)).trans bz;have HT:=yh Tj;have XF:=yh Z;clear dV aq aW bz K HW Tj Z
  go_upto_region 6 with fail
  generalize I3:w4.setCell ⟨w.heap.size+1,0,none⟩ (.int .i64 0)=w5 at*;have qE:w5.heap.size=w4.heap.size:=by rw [<-I3,size_setCell]
  clear I Y I3;obtain⟨c1,f1,I,l0,l1,l2,l3,l4⟩:=rV (aL q) (ae q 0) (aj J (j:=0) (u:=iV 0) rfl) (aL OR) (bD OR) (bH OR) (fI OR) (gz OR);have arM:w.heap.size<w5.heap.size:=by omega
  have HX:=yh (aF q (aF J (aF P M)));have HZ5:=yh qE;have hbN:=bY w5 (.map #[] 0) (.cells (Pg p l w5.heap.size y false) 95);have c1N:=aj ((hbN.block _ (aw q)).trans q) (j:=0) (u:= .pointer none) rfl;have f1N:=ae ((hbN.block _ (aw q)).trans q) 0;clear q J P OR qE hbN;have BV:= @run_makeMap prog
  go_upto_region 9 with fail
  obtain⟨D,Mt⟩:=bQ (((w5.setCell ⟨w.heap.size,0,none⟩ (.pointer (some ⟨w5.heap.size+1,0,none⟩))).alloc (.map #[] 0)).alloc (.cells (Pg p l w5.heap.size y false) 95));rw [<-Mt];obtain⟨r1,r2,r3,r4,r5,r6,r7⟩:=aeE (l:=l) (y:=y) bm HX.o.1 HX.o.2.1 HX.o.2.2.1 Mt;have G8:=(HT.o.au HX.o.2.2.2 (λk e=>by omega) (by omega)).au r6 (λk e=>by omega) (by omega);have Fl:jH S 1 y.log rs hd:=⟨G8.t,G8.x⟩;obtain⟨Wr,Ez,Ii,Ij⟩:=lV (f:=1) XF.o;obtain⟨iQ,mg,xA,ZB⟩:=Fl.small cZ (by omega);have X5:(bu S s 1 (y.log:Int)).2.puts= []:=by
   have:=XF.o;rw [show bu S s 1 (y.log:Int)=S.take.fl s from Ij] at this⊢;exact jf this
  have aaB:(bu S s 1 (y.log:Int)).2.fC:=by
   rw [show bu S s 1 (y.log:Int)=S.take.fl s from Ij];exact cZ.take.fl s
  obtain⟨S1,aaC⟩:∃S1,S1=(bu S s 1 (y.log:Int)).2:=⟨_,rfl⟩;rw [<-aaC] at r5 X5 aaB;have hkq:¬F (w5.heap.size+1):=λd=>by have:=bm _ d;omega
  have hkm:¬F w5.heap.size:=λd=>by have:=bm _ d;omega
  have hre:=SD r5 r3 r4 hkq hkm uv.1 G8.r.aeF mg (by omega) (by rw [X5];simp);have a:=yh (aF r1 (aF r2 (aF r3 (aF r5 (aF G8 (aF Fl (aF X5 (aF aaB (aF aaC (aF mg (aF r6 (aF Ez Ii))))))))))));have cq1:=aL r1;clear r1 r2 r3 r4 r5 G8 Fl X5 aaB aaC iQ mg xA ZB Wr Ez Ii Ij Mt HT HX c1 I f1 c1N f1N l0 l1 l2 l3 l4 BV;have Mf:=r7;clear r7 r6;go_wp2_with fail;refine hre.mono ?_;rintro e i Hw;clear hre cq1;have Ax:=(BN.trans M (λk e=> .inr (by omega))).trans a.o.2.2.2.2.2.2.2.2.2.2.1 (λk e=> .inr (by omega));have qE:=HZ5.o;clear BN M;rcases Hw with ⟨hn,rfl,nF,gy⟩|⟨ov,uF,rfl,nF,gy,WB⟩
  .have Z2:=gy.size;have m:=(gy.block w.heap.size (by omega) (by omega)).trans a.o.1;have n:=(gy.block (w.heap.size+1) (by omega) (by omega)).trans a.o.2.1;obtain⟨A,C,p3,g⟩:=oset (w:=w) (v:= .pointer none) (x:=6) (λk d=> .inl (bm k d)) m n nF;have HG:=yh (aF m n);have O:Yh (jP S s 6 S1):=by
    unfold jP;rw [<-H.o];exact .inr ⟨qv,hf, .inr ⟨XF.o,rs,hd,a.o.2.2.2.2.2.1, .inl ⟨hn,rfl,a.o.2.2.2.2.2.2.2.2.1⟩⟩⟩
   have b:=yh (aF A (aF C (aF p3 ((Ax.trans gy (λk e=> .inr (by omega))).trans g (λk e=> .inr (by omega)):aa F w _))));clear A C p3 g nF gy m n hn Ax;go_wp2;refine leaves_cons (f:=53) (args:= #[pQ w.heap.size, .pointer (some ⟨w.heap.size+1,0,none⟩)]) (by simp) (by simp [go_sem]) ?_;refine(Es w.heap.size (w.heap.size+1) _ _ _ HG.o.1 HG.o.2 (by omega)).mono ?_;rintro e u' Bh ⟨rfl,rfl,ae5⟩;rw [<-ae5] at b;have Q:=aj b.o.1 (j:=0) (u:= .pointer none) rfl;have U:=aj b.o.2.1 (j:=0) (u:=iV 6) rfl;clear ae5;simp [Leaves,settle,results,results18,go_sem,Q,U];exact⟨6,S1,_,by have:=H.o;rw [<-this];omega,O.o,b.o.2.2.2, .inl ⟨by decide,rfl,b.o.2.2.1.more⟩⟩
  .obtain⟨R,E⟩:=bQ (ee S1 s y ov rs);rw [<-E] at nF WB;rw [<-E];have Z2:=gy.size;have m:=(gy.block w.heap.size (by omega) (λe=>by rcases e with e|e;omega;have:=bm _ e;omega)).trans a.o.1;have n:=(gy.block (w.heap.size+1) (by omega) (λe=>by rcases e with e|e;omega;have:=bm _ e;omega)).trans a.o.2.1;have c1:=aL m;have f1:=ae m 0;have I:=aj n (j:=0) (u:=iV 0) rfl;have Y:=ae n 0;have WC:∀k,more F D i k->k<w.heap.size\/w.heap.size+2<=k:=λk h=>by
    rcases h with h|h
    .exact .inl (bm k h)
    .exact .inr (by omega)
   have BO:=Ax.trans gy (λk e=>by rcases e with e|e;exact .inr (by omega);exact .inl e);by_cases N:R.1=0
   .have dz:(R.1 == 0)=true:=(by rw [N];rfl);have dz2:(R.1 != 0)=false:=(by simp [N]);obtain⟨L,hL⟩:=bQ (eZ S 1 y.log hd);have ae6:cQ D l p L:=(by rw [hL];exact a.o.2.2.2.2.1.p);have xn:L.Ok s:=(by rw [hL];exact xQ a.o.2.2.2.2.2.1 cZ a.o.2.2.2.2.2.2.2.2.2.2.2.1 a.o.2.2.2.2.2.2.2.2.2.2.2.2 uv.2.1 uv.2.2.1 uv.2.2.2.1);have xw:l≠w5.heap.size:=(by omega);have hlF:¬F l:=λe=>by have:=bm _ e;omega
    have akr:¬more F D i l:=λe=>by
     rcases e with e|e
     .exact hlF e
     .omega
    have ae7:=ae6.au gy (λe=>by rcases e with e|e;exact xw e;exact hlF e);have wY:=a.o.2.2.1.au gy (λe=>by rcases e with e|e;omega;exact hkq e);have hRb:R.2.fC:=(by rw [E];exact C4 a.o.2.2.2.2.2.2.2.1 (qt uF (λx hx=>by cases hx) (λr hr=>(a.o.2.2.2.2.2.2.2.2.2.1 r hr).1)));have hRp:R.2.puts.length<=0:=by
     have h1:=KU (S:=S1) (s:=s) (y:=y) (ov:=ov) (rs:=rs) (by rw [<-E];exact N);rw [<-E,a.o.2.2.2.2.2.2.1] at h1;exact h1
    have aaD:=B.OB nF ae7 xn akr hRb (by omega);obtain⟨T,hT⟩:=bQ (L.start R.2 s);rw [<-hT] at aaD;have O:Yh (jP S s T.1 T.2.1):=by
     unfold jP;rw [<-H.o];exact .inr ⟨qv,hf, .inr ⟨XF.o,rs,hd,a.o.2.2.2.2.2.1, .inr ⟨ov,uF, .inr ⟨by rw [<-a.o.2.2.2.2.2.2.2.2.1,<-E];exact N,by rw [<-a.o.2.2.2.2.2.2.2.2.1,<-E,<-hL,<-hT],by rw [<-a.o.2.2.2.2.2.2.2.2.1,<-E,<-hL,<-hT]⟩⟩⟩⟩
    have HSL:Yh (sR S s T.2.2):=by
     unfold sR;rw [<-H.o];exact⟨rs,hd,ov,a.o.2.2.2.2.2.1,uF,by rw [<-a.o.2.2.2.2.2.2.2.2.1,<-E,<-hL,<-hT]⟩
    have rN:T.1=0->T.2.2.Ok s/\T.2.2.begun=true:=(by rw [hT];exact sQ xn);have X:=yh (aF m (aF n (aF wY (aF (WB N) (aF BO rN)))));clear nF gy m n Ax BO E WB N hL ae6 xn ae7 wY hRb hRp hT rN uF c1 I f1 Y qE;generalize R.1=z at*;go_wp2_with fail;refine oX aaD λG nU aaE jv=>?_;clear aaD;have qE:=HZ5.o;have VY:=jv.size;have m:=(jv.block w.heap.size (by omega) (λe=>by rcases e with e|e;rcases WC _ e with e|e <;> omega;omega)).trans X.o.1;have n:=(jv.block (w.heap.size+1) (by omega) (λe=>by rcases e with e|e;rcases WC _ e with e|e <;> omega;omega)).trans X.o.2.1;have c1:=aj m (j:=0) (u:= .pointer (some ⟨w5.heap.size+1,0,none⟩)) rfl;have f1:=ae m 0;have I:=aj n (j:=0) (u:=iV 0) rfl;have Y:=ae n 0;have Yb:∀k,more (more F D i) i G k->k<w.heap.size\/w.heap.size+2<=k:=λk h=>by
     rcases h with h|h
     .exact WC k h
     .exact .inr (by omega)
    have WD:=X.o.2.2.2.2.1.trans jv (λk e=>by
     rcases e with (e|e)|e
     .exact .inl e
     .exact .inr (by omega)
     .exact .inr (by omega))
    have VI:∀(w9:World),G.heap.size<=w9.heap.size->∀k,more (more F D i) i G k->more F w w9 k:=λw9 hz k h=>by
     rcases h with (h|h)|h
     .exact .inl h
     .exact .inr (by omega)
     .exact .inr (by omega)
    by_cases W:T.1=0
    .have dt:(T.1 == 0)=true:=(by rw [W];rfl);have dt2:(T.1 != 0)=false:=(by simp [W]);obtain⟨A,C,p3,g⟩:=oset (w:=w) (v:= .pointer (some ⟨w5.heap.size+1,0,none⟩)) (x:=0) Yb m n nU;have hq8:¬more (more F D i) i G (w5.heap.size+1):=λe=>by
      rcases e with (e|e)|e
      .exact hkq e
      .omega
      .omega
     have Xi:¬more (more F D i) i G w5.heap.size:=λe=>by
      rcases e with (e|e)|e
      .exact hkm e
      .omega
      .omega
     have CW:¬more (more F D i) i G l:=λe=>by
      rcases e with (e|e)|e
      .exact hlF e
      .omega
      .omega
     have Wc:=(X.o.2.2.1.au jv (λe=>by rcases e with e|e;exact hq8 (.inl e);omega)).au g (by omega);have ae8:=(X.o.2.2.2.1.au jv (λe=>by rcases e with e|e;exact Xi (.inl e);omega)).au g (by omega);have ae9:=aaE.au g (by omega);have FQ:=X.o.2.2.2.2.2 W;have hSt:ig ((G.setCell ⟨w.heap.size,0,none⟩ (.pointer (some ⟨w5.heap.size+1,0,none⟩))).setCell ⟨w.heap.size+1,0,none⟩ (.int .i64 0)) (more (more F D i) i G) p s (c+1+B.oRd S s 1 (y.log:Int)+2) (w5.heap.size+1) l w5.heap.size T.2.1 ⟨y,T.2.2, [],false⟩:=
        ⟨p3,Wc,ae9,ae8,hq8,CW,Xi,by omega,by omega,xw,FQ.1,FQ.2,uv.1,(λx hx=>by cases hx)⟩
     obtain⟨b,HT0⟩:=bL (aF A (aF C (aF hSt (aF (WD.trans g (λk e=> .inr (by omega)):aa F w _) (VI _ g.size))))) W;have Tk:=yh (aF (by omega:w.heap.size<=w5.heap.size+1) (aF (by omega:w.heap.size<=l) (by omega:w.heap.size<=w5.heap.size)));clear A C p3 g nU aaE jv m n WD VI Wc ae8 ae9 FQ hSt X W qE;go_wp2;generalize (G.setCell ⟨w.heap.size,0,none⟩ (.pointer (some ⟨w5.heap.size+1,0,none⟩))).setCell ⟨w.heap.size+1,0,none⟩ (.int .i64 0)=w9 at*;have Q:=aj b.o.1 (j:=0) (u:= .pointer (some ⟨w5.heap.size+1,0,none⟩)) rfl;have U:=aj b.o.2.1 (j:=0) (u:=iV 0) rfl;refine leaves_cons (f:=53) (args:= #[pQ w.heap.size, .pointer (some ⟨w.heap.size+1,0,none⟩)]) (by simp) (by simp [go_sem]) ?_;refine(kL _ _ _).mono ?_;rintro e u' Bh ⟨rfl,rfl,rfl⟩;simp [Leaves,settle,results,results18,go_sem,Q,U];have bt:=b.o.2.2.1;rw [H.o] at bt;have ho:=O.o;rw [HT0.o] at ho;exact⟨0,T.2.1,_,by have:=H.o;rw [<-this];omega,ho,b.o.2.2.2.1, .inr ⟨rfl,w5.heap.size+1,l,w5.heap.size,T.2.2,_,HSL.o,rfl,b.o.2.2.2.2,Tk.o.1,Tk.o.2.1,Tk.o.2.2,bt⟩⟩
    .have dt:(T.1 == 0)=false:=(by simpa using W);have dt2:(T.1 != 0)=true:=(by simp [W]);obtain⟨A,C,p3,g⟩:=oset (w:=w) (v:= .pointer none) (x:=T.1) Yb m n nU;have afa:∀k,more F w ((G.setCell ⟨w.heap.size,0,none⟩ (.pointer none)).setCell ⟨w.heap.size+1,0,none⟩ (.int .i64 T.1)) k->k<((G.setCell ⟨w.heap.size,0,none⟩ (.pointer none)).setCell ⟨w.heap.size+1,0,none⟩ (.int .i64 T.1)).heap.size:=λk h=>by
      have RA:=g.size;rcases h with h|h
      .have:=bm k h;omega
      .omega
     obtain⟨b,HT0⟩:=bL (aF A (aF C (aF (p3.mono (VI _ g.size) afa) (WD.trans g (λk e=> .inr (by omega)):aa F w _)))) W;clear A C p3 g nU aaE jv m n WD VI afa X W;generalize T.1=t at*;go_wp2;generalize (G.setCell ⟨w.heap.size,0,none⟩ (.pointer none)).setCell ⟨w.heap.size+1,0,none⟩ (.int .i64 t)=w9 at*;have Q:=aj b.o.1 (j:=0) (u:= .pointer none) rfl;have U:=aj b.o.2.1 (j:=0) (u:=iV t) rfl;refine leaves_cons (f:=53) (args:= #[pQ w.heap.size, .pointer (some ⟨w.heap.size+1,0,none⟩)]) (by simp) (by simp [go_sem]) ?_;refine(kL _ _ _).mono ?_;rintro e u' Bh ⟨rfl,rfl,rfl⟩;simp [Leaves,settle,results,results18,go_sem,Q,U];exact⟨t,T.2.1,_,by have:=H.o;rw [<-this];omega,O.o,b.o.2.2.2, .inl ⟨HT0.o,rfl,b.o.2.2.1⟩⟩
   .have dz:(R.1 == 0)=false:=(by simpa using N);have dz2:(R.1 != 0)=true:=(by simp [N]);obtain⟨A,C,p3,g⟩:=oset (w:=w) (v:= .pointer none) (x:=R.1) WC m n nF;have O:Yh (jP S s R.1 R.2):=by
     unfold jP;rw [<-H.o];exact .inr ⟨qv,hf, .inr ⟨XF.o,rs,hd,a.o.2.2.2.2.2.1, .inr ⟨ov,uF, .inl ⟨by rw [E,a.o.2.2.2.2.2.2.2.2.1],N,by rw [E,a.o.2.2.2.2.2.2.2.2.1]⟩⟩⟩⟩
    have BZ:B.ax ((i.setCell ⟨w.heap.size,0,none⟩ (.pointer none)).setCell ⟨w.heap.size+1,0,none⟩ (.int .i64 R.1)) (more F w ((i.setCell ⟨w.heap.size,0,none⟩ (.pointer none)).setCell ⟨w.heap.size+1,0,none⟩ (.int .i64 R.1))) p s R.2 (c+1+B.oRd S s 1 (y.log:Int)):=by
     have RA:=g.size;refine p3.mono (λk h=>?_) (λk h=>?_)
     .rcases h with h|h
      .exact .inl h
      .exact .inr (by omega)
     .rcases h with h|h
      .have:=bm k h;omega
      .omega
    obtain⟨b,Mq⟩:=bL (aF A (aF C (aF BZ (BO.trans g (λk e=> .inr (by omega)):aa F w _)))) N;clear A C p3 g nF gy m n Ax BO BZ E WB N;generalize R.1=z at*;go_wp2;generalize (i.setCell ⟨w.heap.size,0,none⟩ (.pointer none)).setCell ⟨w.heap.size+1,0,none⟩ (.int .i64 z)=G at*;have Q:=aj b.o.1 (j:=0) (u:= .pointer none) rfl;have U:=aj b.o.2.1 (j:=0) (u:=iV z) rfl;refine leaves_cons (f:=53) (args:= #[pQ w.heap.size, .pointer (some ⟨w.heap.size+1,0,none⟩)]) (by simp) (by simp [go_sem]) ?_;refine(kL _ _ _).mono ?_;rintro e u' Bh ⟨rfl,rfl,rfl⟩;simp [Leaves,settle,results,results18,go_sem,Q,U];exact⟨z,R.2,_,by have:=H.o;rw [<-this];omega,O.o,b.o.2.2.2, .inl ⟨Mq.o,rfl,b.o.2.2.1⟩⟩
 .rw [aE Z] at uw;subst uw;have O:Yh (jP S s (bu S s 1 (y.log:Int)).1 (bu S s 1 (y.log:Int)).2):= .inr ⟨qv,hf, .inl ⟨by rw [<-H.o],Z,by rw [<-H.o]⟩⟩;obtain⟨S',hS'⟩:∃S',S'=(bu S s 1 (y.log:Int)).2:=⟨_,rfl⟩;rw [<-hS'] at O K;obtain⟨x,hx⟩:∃x,x=(bu S s 1 (y.log:Int)).1:=⟨_,rfl⟩;rw [<-hx] at O Z;rw [<-hx];have dx2:(x != 0)=true:=by simp [Z]
  obtain⟨q,J,P,M⟩:=aeD x (λk d=> .inl (bm k d)) aq aW K;have I:=aj aW (j:=0) (u:=iV 0) rfl;have Y:=ae aW 0;clear hx hS' dV aq aW bz K HW
  go_upto_region 6 with fail
  generalize w4.setCell ⟨w.heap.size+1,0,none⟩ (.int .i64 x)=w5 at*;clear I Y;have c1:=aL q;have f1:=ae q 0;have I:=aj J (j:=0) (u:=iV x) rfl;have Y:=ae J 0;obtain⟨A,C,p3,g⟩:=oset (w:=w) (v:= .pointer none) (x:=x) (λk d=> .inl (bm k d)) q J P;clear q J P
  go_upto_region 7 with fail
  go_region
  have oU:=BN.trans M (λk e=> .inr (by omega));generalize (w5.setCell ⟨w.heap.size,0,none⟩ (.pointer none)).setCell ⟨w.heap.size+1,0,none⟩ (.int .i64 x)=D at*;have Up:bW D D.drew:=ai (bi _ _);have HF:Yh (B.ax D.drew F p s S' (c+1+B.oRd S s 1 (y.log:Int))/\aa F w D.drew):=⟨p3.later Up,(oU.trans g (λk e=> .inr (by omega))).trans (aa.ah (λ_=>False) Up) (λ_ h=>h.elim)⟩;have Q:=aj ((Up.block _ (aw A)).trans A) (j:=0) (u:= .pointer none) rfl;have U:=aj ((Up.block _ (aw C)).trans C) (j:=0) (u:=iV x) rfl;clear A C p3 g Up c1 I f1 Y M oU BN;generalize D.drew=i at*;go_wp2;refine leaves_cons (f:=53) (args:= #[pQ w.heap.size, .pointer (some ⟨w.heap.size+1,0,none⟩)]) (by simp) (by simp [go_sem]) ?_;refine(kL _ _ _).mono ?_;rintro e u' Bh ⟨rfl,rfl,rfl⟩;simp [Leaves,settle,results,results18,go_sem,Q,U];exact⟨x,S',_,by have:=H.o;rw [<-this];omega,O.o,HF.o.2, .inl ⟨Z,rfl,HF.o.1.more⟩⟩
section
structure PI where
 q:Nat
 l:Nat
 m:Nat
 G:SG
structure PT where
 i:Nat
 t:Nat
 n:Nat
 T:TG
structure PW (w:World) (F P:Nat->Prop) (p s:Nat) (S:DS) (c:Nat) (ss:List PI) (ts:List PT):Prop where
 d:B.ax w F p s S c
 fD:∀g,P g->¬F g
 lt:∀g,P g->g<w.heap.size
 st:∀I∈ss,mZ w I.q p I.l I.m I.G.y I.G.busy/\cQ w I.l p I.G.L/\Ch w I.m I.G.ov/\(P I.q/\P I.l/\P I.m)/\I.G.L.Ok s/\I.G.L.begun=true/\I.G.y.home+I.G.y.blocks<=s/\∀x∈I.G.ov,x.1<I.G.y.blocks
 tx:∀J∈ts,∃I,ss[J.i]? =some I/\w.heap[J.t]? =some (.cells (zK I.q J.n J.T) 98 (0,0))/\Ch w J.n J.T.puts/\(P J.t/\P J.n)/\∀x∈J.T.puts,x.1<I.G.y.blocks
 nq:(ss.map (·.q)).Nodup
 nl:(ss.map (·.l)).Nodup
 nm:(ss.map (·.m) ++ ts.map (·.n)).Nodup
 nt:(ts.map (·.t)).Nodup
theorem cU {w:World} {b:Nat} {x:Array Value} {u:Nat×Nat} (c:w.heap[a]? =some (.cells x e u)) (d:w.heap[b]? =some (.cells y f v)) (dG:e≠f):a≠b:=λh=>by
 rw [h,d] at c;simp at c;exact dG c.2.1.symm
theorem k9 {w:World} {m b:Nat} {ms:CM} (a:Ch w m ms) (c:w.heap[b]? =some (.cells y f v)):m≠b:=λh=>a.qh (by rw [h];exact c)
theorem iM {f:α->Nat} {l:List α} (h:(l.map f).Nodup) {i j:Nat} {a b:α} (n:l[i]? =some a) (o:l[j]? =some b) (dG:i≠j):f a≠f b:=λe=>by
 obtain⟨k,d⟩:=mG.1 n;obtain⟨m,g⟩:=mG.1 o;rw [List.nodup_iff_pairwise_ne,List.pairwise_iff_getElem] at h;rcases Nat.lt_or_gt_of_ne dG with c|c
 .have:=h i j (by simpa using k) (by simpa using m) c;simp only [List.getElem_map,d,g] at this;exact this e
 .have:=h j i (by simpa using m) (by simpa using k) c;simp only [List.getElem_map,d,g] at this;exact this e.symm
section
variable {w w':World} {F F' P:Nat->Prop} {p s c c' i j:Nat} {S S':DS} {ss:List PI} {ts:List PT} {I:PI} {J:PT} {G':SG} {T':TG}
theorem PW.EF (h:PW w F P p s S c ss ts) (o:ss[i]? =some I):ig w F p s c I.q I.l I.m S I.G:=by
 obtain⟨a,b,f,⟨r,t,p3⟩,g,j,k,n⟩:=h.st I (gu o);exact⟨h.d,a,b,f,h.fD _ r,h.fD _ t,h.fD _ p3,cU a b (by decide),λe=>k9 f a e.symm,λe=>k9 f b e.symm,g,j,k,n⟩
theorem PW.K6 (h:PW w F P p s S c ss ts) (o:ts[j]? =some J) (d:ss[J.i]? =some I):mx w F I.q I.l I.m J.t J.n I.G J.T:=by
 obtain⟨I',nj,a,b,⟨v,x⟩,u⟩:=h.tx J (gu o);obtain rfl:I'=I:=Option.some.inj (nj.symm.trans d);obtain⟨g,k,r,_⟩:=h.st I' (gu d);have f:J.n≠I'.m:=λe=>by
  have:=(List.nodup_append.1 h.nm).2.2 I'.m (List.mem_map_of_mem (gu d)) J.n (List.mem_map_of_mem (gu o));exact this e.symm
 exact⟨a,b,h.fD _ v,h.fD _ x,cU a g (by decide),cU a k (by decide),λe=>k9 r a e.symm,λe=>k9 b a e.symm,k9 b g,k9 b k,f,u⟩
theorem PW.at (h:PW w F P p s S c ss ts) (b:ts[j]? =some J):∃I,ss[J.i]? =some I:=by
 obtain⟨I,a,_⟩:=h.tx J (gu b);exact⟨I,a⟩
theorem PW.au (h:PW w F P p s S c ss ts) (a:aa Z w w') (m:∀g,F g->¬Z g) (b:∀g,P g->¬Z g):PW w' F P p s S c ss ts:=by
 refine⟨h.d.au a m,h.fD,λg q=>iP (h.lt g q) a.size,λI n=>?_,λJ o=>?_,h.nq,h.nl,h.nm,h.nt⟩
 .obtain⟨i,j,k,⟨e,f,p3⟩,l⟩:=h.st I n;exact⟨i.au a (b _ e),j.au a (b _ f),k.au a (b _ p3),⟨e,f,p3⟩,l⟩
 .obtain⟨I,r,i,j,⟨e,f⟩,k⟩:=h.tx J o;exact⟨I,r,(a.block _ (aw i) (b _ e)).trans i,j.au a (b _ f),⟨e,f⟩,k⟩
theorem PW.later (h:PW w F P p s S c ss ts) (a:bW w w'):PW w' F P p s S c ss ts:=h.au (aa.ah (λ_=>False) a) (λ_ _ h=>h) (λ_ _ h=>h)
theorem PW.on (h:PW w F P p s S c ss ts) (o:ss[i]? =some I) (A:ts[j]? =some J) (Pw:J.i=i) (Y:G'.y=I.G.y) (X:∀g,F' g->more F w w' g) (bt:ig w' F' p s c' I.q I.l I.m S' G') (nK:w'.heap[J.t]? =some (.cells (zK I.q J.n T') 98 (0,0))) (nc:Ch w' J.n T'.puts) (oZ:∀x∈T'.puts,x.1<G'.y.blocks) (D:aa (λg=>F g\/g=I.q\/g=I.l\/g=I.m\/g=J.t\/g=J.n) w w'):
  PW w' F' P p s S' c' (ss.set i {I with G:=G'}) (ts.set j {J with T:=T'}):=by
 have uG:=(mG.1 o).1;have C:=(mG.1 A).1;obtain⟨WE,WF,u,⟨pq,Z,pm⟩,_⟩:=h.st I (gu o);obtain⟨I0,rt,r,v,⟨pt,pn⟩,_⟩:=h.tx J (gu A);have wP:=List.nodup_append.1 h.nm;have BQ:∀g,P g->¬F' g:=λg L a=>by
  rcases X g a with a|a
  .exact h.fD g L a
  .have:=h.lt g L;omega
 have aku:(ss.set i {I with G:=G'}).map (·.q)=ss.map (·.q):=by
  rw [List.map_set];apply List.ext_getElem?;intro n;by_cases e:n=i
  .subst e;rw [List.getElem?_set_self (by simpa using uG),Bd,o];rfl
  .rw [List.getElem?_set_ne (λh=>e h.symm)]
 have akv:(ss.set i {I with G:=G'}).map (·.l)=ss.map (·.l):=by
  rw [List.map_set];apply List.ext_getElem?;intro n;by_cases e:n=i
  .subst e;rw [List.getElem?_set_self (by simpa using uG),Bd,o];rfl
  .rw [List.getElem?_set_ne (λh=>e h.symm)]
 have akw:(ss.set i {I with G:=G'}).map (·.m)=ss.map (·.m):=by
  rw [List.map_set];apply List.ext_getElem?;intro n;by_cases e:n=i
  .subst e;rw [List.getElem?_set_self (by simpa using uG),Bd,o];rfl
  .rw [List.getElem?_set_ne (λh=>e h.symm)]
 have akx:(ts.set j {J with T:=T'}).map (·.t)=ts.map (·.t):=by
  rw [List.map_set];apply List.ext_getElem?;intro n;by_cases e:n=j
  .subst e;rw [List.getElem?_set_self (by simpa using C),Bd,A];rfl
  .rw [List.getElem?_set_ne (λh=>e h.symm)]
 have aky:(ts.set j {J with T:=T'}).map (·.n)=ts.map (·.n):=by
  rw [List.map_set];apply List.ext_getElem?;intro n;by_cases e:n=j
  .subst e;rw [List.getElem?_set_self (by simpa using C),Bd,A];rfl
  .rw [List.getElem?_set_ne (λh=>e h.symm)]
 refine⟨bt.d,BQ,λg L=>iP (h.lt g L) D.size,λK O=>?_,λK O=>?_,by rw [aku];exact h.nq,by rw [akv];exact h.nl,by rw [akw,aky];exact h.nm,by rw [akx];exact h.nt⟩
 .obtain⟨n,b⟩:=List.mem_iff_getElem?.1 O;by_cases e:n=i
  .subst e;rw [List.getElem?_set_self uG] at b;cases b;exact⟨bt.st,bt.lp,bt.ch,⟨pq,Z,pm⟩,bt.lk,bt.bg,bt.hs,bt.kb⟩
  .rw [List.getElem?_set_ne (λh=>e h.symm)] at b;obtain⟨f,k,z,⟨E,H,p3⟩,W⟩:=h.st K (gu b);refine⟨f.au D (λa=>?_),k.au D (λa=>?_),z.au D (λa=>?_),⟨E,H,p3⟩,W⟩
   .rcases a with a|a|a|a|a|a
    .exact h.fD _ E a
    .exact(iM h.nq b o e) a
    .exact cU f WF (by decide) a
    .exact k9 u f a.symm
    .exact cU f r (by decide) a
    .exact k9 v f a.symm
   .rcases a with a|a|a|a|a|a
    .exact h.fD _ H a
    .exact cU k WE (by decide) a
    .exact(iM h.nl b o e) a
    .exact k9 u k a.symm
    .exact cU k r (by decide) a
    .exact k9 v k a.symm
   .rcases a with a|a|a|a|a|a
    .exact h.fD _ p3 a
    .exact k9 z WE a
    .exact k9 z WF a
    .exact(iM wP.1 b o e) a
    .exact k9 z r a
    .exact(wP.2.2 K.m (List.mem_map_of_mem (gu b)) J.n (List.mem_map_of_mem (gu A))) a
 .obtain⟨n,b⟩:=List.mem_iff_getElem?.1 O;by_cases e:n=j
  .subst e;rw [List.getElem?_set_self C] at b;cases b;refine⟨{I with G:=G'},by rw [Pw];exact List.getElem?_set_self uG,nK,nc,⟨pt,pn⟩,oZ⟩
  .rw [List.getElem?_set_ne (λh=>e h.symm)] at b;obtain⟨M,Q,f,k,⟨E,H⟩,z⟩:=h.tx K (gu b);have R:=(D.block _ (aw f) (λa=>by
    rcases a with a|a|a|a|a|a
    .exact h.fD _ E a
    .exact cU f WE (by decide) a
    .exact cU f WF (by decide) a
    .exact k9 u f a.symm
    .exact(iM h.nt b A e) a
    .exact k9 v f a.symm)).trans f
   have U:=k.au D (λa=>by
    rcases a with a|a|a|a|a|a
    .exact h.fD _ H a
    .exact k9 k WE a
    .exact k9 k WF a
    .exact(wP.2.2 I.m (List.mem_map_of_mem (gu o)) K.n (List.mem_map_of_mem (gu b))) a.symm
    .exact k9 k r a
    .exact(iM wP.2.1 b A e) a)
   by_cases N:K.i=i
   .rw [N,o] at Q;cases Q;exact⟨{I with G:=G'},by rw [N];exact List.getElem?_set_self uG,R,U,⟨E,H⟩,by rw [show ({I with G:=G'}:PI).G=G' from rfl,Y];exact z⟩
   .exact⟨M,by rw [List.getElem?_set_ne (λh=>N h.symm)];exact Q,R,U,⟨E,H⟩,z⟩
end
end
section
structure RI where
 k:Nat
 kl:Nat
 pv:Value
 ps:List (Nat×List Int)
 hm:Nat
 nv:Value
 G:SG
structure RJ where
 i:Nat
 u:Nat
 tv:Value
 us:List (Nat×List Int)
 T:TG
structure RW (w:World) (F X:Nat->Prop) (r s:Nat) (S:DS) (ss:List RI) (ts:List RJ):Prop where
 e:aB w F r s S
 fD:∀g,X g->¬F g
 lt:∀g,X g->g<w.heap.size
 st:∀I∈ss,iz w F X r s S I.k I.kl I.G I.pv I.ps I.hm I.nv
 tx:∀J∈ts,∃I,ss[J.i]? =some I/\nT w X I.k J.u I.G J.T J.tv J.us
 nk:(ss.map (·.k)).Nodup
 nl:(ss.map (·.kl)).Nodup
 nu:(ts.map (·.u)).Nodup
 r1:∀(i i':Nat) (I I':RI),ss[i]? =some I->ss[i']? =some I'->i≠i'->∀g,I.pv.ownBlock=some g->I'.pv.ownBlock≠some g
 r2:∀(j j':Nat) (J J':RJ),ts[j]? =some J->ts[j']? =some J'->j≠j'->∀g,J.tv.ownBlock=some g->J'.tv.ownBlock≠some g
 r3:∀I∈ss,∀J∈ts,∀g,I.pv.ownBlock=some g->J.tv.ownBlock≠some g
theorem mU {f:α->Nat} {l:List α} {i:Nat} {a b:α} (c:l[i]? =some a) (h:f b=f a):(l.set i b).map f=l.map f:=by
 rw [List.map_set];apply List.ext_getElem?;intro n;by_cases e:n=i
 .subst e;rw [List.getElem?_set_self (by simpa using ((mG.1 c).1)),Bd,c,h];rfl
 .rw [List.getElem?_set_ne (λh=>e h.symm)]
theorem dg {l:List α} {i:Nat} {a b x:α} (d:l[i]? =some a) (c:(l.set i b)[n]? =some x):(n=i/\x=b)\/(n≠i/\l[n]? =some x):=by
 by_cases e:n=i
 .subst e;rw [List.getElem?_set_self ((mG.1 d).1)] at c;exact .inl ⟨rfl,(Option.some.inj c).symm⟩
 .rw [List.getElem?_set_ne (λh=>e h.symm)] at c;exact .inr ⟨e,c⟩
section
variable {w w':World} {F F' X X':Nat->Prop} {r s i j:Nat} {S S':DS} {ss:List RI} {ts:List RJ} {I I':RI} {J J':RJ}
theorem RW.au (h:RW w F X r s S ss ts) (a:aa Z w w') (d:∀g,F g->¬Z g) (b:∀g,X g->¬Z g):RW w' F X r s S ss ts:=by
 refine⟨h.e.au a d,h.fD,λg j=>iP (h.lt g j) a.size,λI f=>(h.st I f).au a b,λJ i=>?_,h.nk,h.nl,h.nu,h.r1,h.r2,h.r3⟩;obtain⟨I,k,c⟩:=h.tx J i;exact⟨I,k,c.au a b⟩
theorem RW.later (h:RW w F X r s S ss ts) (a:bW w w'):RW w' F X r s S ss ts:=h.au (aa.ah (λ_=>False) a) (λ_ _ h=>h) (λ_ _ h=>h)
theorem RW.jI (h:RW w F X r s S ss ts) (a:ss[i]? =some I):iz w F X r s S I.k I.kl I.G I.pv I.ps I.hm I.nv:=h.st I (gu a)
theorem RW.oV (h:RW w F X r s S ss ts) (c:ts[j]? =some J) (b:ss[J.i]? =some I):nT w X I.k J.u I.G J.T J.tv J.us:=by
 obtain⟨I',nj,a⟩:=h.tx J (gu c);obtain rfl:I'=I:=Option.some.inj (nj.symm.trans b);exact a
theorem iz.other {e:Value} (h:iz w F X r s S k kl G e ps hm nv) (d:aa Z w w') (b:∀g,X g->X' g) (ZX:∀g,X' g->¬F' g) (bm:∀g,X' g->g<w'.heap.size) (f:¬Z k) (i:¬Z kl) (j:∀g,e.ownBlock=some g->¬Z g) (l:∀g c ys,X g->ay w 5 g c ys->¬Z g) (a:S'=S\/G.L.dead S'=true):iz w' F' X' r s S' k kl G e ps hm nv:=
   ⟨h.st.au d f,h.lp.au d i,(h.pl.au d j l).mono b,b _ h.xk,b _ h.xl,ZX,bm,h.lk,h.bg,h.hs,h.lh,h.ov,h.hm,h.kb,λhd=>by
  rcases a with a|a
  .rw [a] at hd⊢;exact h.un hd
  .rw [a] at hd;cases hd⟩
theorem nT.other {G':SG} {tv:Value} {us:List (Nat×List Int)} (h:nT w X k u G T tv us) (b:aa Z w w') (a:∀g,X g->X' g) (d:G'.y=G.y) (e:¬Z u) (f:∀g,tv.ownBlock=some g->¬Z g) (i:∀g c ys,X g->ay w 5 g c ys->¬Z g):nT w' X' k u G' T tv us:=
   ⟨h.tx.au b e,a _ h.xt,(h.pl.au b f i).mono a,h.nd,h.pu,by rw [d];exact h.kb,h.D6⟩
theorem RW.on (h:RW w F X r s S ss ts) (m:ss[i]? =some I) (t:ts[j]? =some J) (Pw:J.i=i) (xq:I'.k=I.k) (MS:I'.kl=I.kl) (hy:I'.G.y=I.G.y) (hu:J'.u=J.u) (Q:J'.i=J.i)
    (he:aB w' F' r s S') (U:∀g,X g->X' g) (_hX':∀g,X' g->more X w w' g) (bt:iz w' F' X' r s S' I'.k I'.kl I'.G I'.pv I'.ps I'.hm I'.nv) (nK:nT w' X' I'.k J'.u I'.G J'.T J'.tv J'.us)
    (wW:I'.pv.ownBlock=I.pv.ownBlock\/∀g,I'.pv.ownBlock=some g->w.heap.size<=g) (Z:J'.tv.ownBlock=J.tv.ownBlock\/∀g,J'.tv.ownBlock=some g->w.heap.size<=g) (Y:∀g,I'.pv.ownBlock=some g->J'.tv.ownBlock≠some g)
    (W:aa (λg=>F g\/g=I.k\/g=I.kl\/g=J.u\/I.pv.ownBlock=some g\/J.tv.ownBlock=some g) w w') (hS:S'=S\/∀n K,ss[n]? =some K->n≠i->K.G.L.dead S'=true):
  RW w' F' X' r s S' (ss.set i I') (ts.set j J'):=by
 have uG:=(mG.1 m).1;have q:=h.jI m;have v:=h.oV t (by rw [Pw];exact m);have z:∀g c ys,X g->ay w 5 g c ys->¬(F g\/g=I.k\/g=I.kl\/g=J.u\/I.pv.ownBlock=some g\/J.tv.ownBlock=some g):=λg c ys hg H d=>by
  have DA:=H;obtain⟨cur,x,_⟩:=DA;rcases d with d|d|d|d|d|d
  .exact h.fD g hg d
  .exact H.ne q.st (by decide) d
  .exact H.ne q.lp (by decide) d
  .exact H.ne v.tx (by decide) d
  .exact q.pl.ne d x (by decide) rfl
  .exact v.pl.ne d x (by decide) rfl
 have Tl:∀{n:Nat} {K:RI},ss[n]? =some K->∀g,K.pv.ownBlock=some g->g<w.heap.size:=λC g e=>(h.jI C).pl.rlt g e;have K8:∀{n:Nat} {K:RJ},ts[n]? =some K->∀g,K.tv.ownBlock=some g->g<w.heap.size:=λC g e=>by
  obtain⟨M,E,hT⟩:=h.tx _ (gu C);exact hT.pl.rlt g e
 have aaI:∀g,I'.pv.ownBlock=some g->I.pv.ownBlock=some g\/w.heap.size<=g:=λg e=>wW.elim (λh=> .inl (h▸e)) (λh=> .inr (h g e));have aaJ:∀g,J'.tv.ownBlock=some g->J.tv.ownBlock=some g\/w.heap.size<=g:=λg e=>Z.elim (λh=> .inl (h▸e)) (λh=> .inr (h g e));refine⟨he,bt.fD,bt.lt,λK R=>?_,λK R=>?_,by rw [mU m xq];exact h.nk,by rw [mU m MS];exact h.nl,by rw [mU t hu];exact h.nu,λa b A B D x oz g o p=>?_,λa b A B D x oz g o p=>?_,λA hA B hB g o p=>?_⟩
 .obtain⟨n,C⟩:=List.mem_iff_getElem?.1 R;rcases dg m C with ⟨_,rfl⟩|⟨dG,Bk⟩
  .exact bt
  .have f:=h.jI Bk;refine f.other W U bt.fD bt.lt (λd=>?_) (λd=>?_) (λg e d=>?_) z (hS.imp id (λh=>h n K Bk dG))
   .rcases d with d|d|d|d|d|d
    .exact h.fD _ f.xk d
    .exact iM h.nk Bk m dG d
    .exact cU f.st q.lp (by decide) d
    .exact cU f.st v.tx (by decide) d
    .exact q.pl.ne d f.st (by decide) rfl
    .exact v.pl.ne d f.st (by decide) rfl
   .rcases d with d|d|d|d|d|d
    .exact h.fD _ f.xl d
    .exact cU f.lp q.st (by decide) d
    .exact iM h.nl Bk m dG d
    .exact cU f.lp v.tx (by decide) d
    .exact q.pl.ne d f.lp (by decide) rfl
    .exact v.pl.ne d f.lp (by decide) rfl
   .rcases d with d|d|d|d|d|d
    .exact h.fD _ (f.pl.row g e) d
    .exact f.pl.ne e q.st (by decide) d
    .exact f.pl.ne e q.lp (by decide) d
    .exact f.pl.ne e v.tx (by decide) d
    .exact h.r1 _ _ _ _ Bk m dG g e d
    .exact h.r3 K (gu Bk) J (gu t) g e d
 .obtain⟨n,C⟩:=List.mem_iff_getElem?.1 R;rcases dg t C with ⟨_,rfl⟩|⟨dG,Bk⟩
  .exact⟨I',by rw [Q,Pw];exact List.getElem?_set_self uG,nK⟩
  .obtain⟨M,E,f⟩:=h.tx K (gu Bk);have zu:¬(F K.u\/K.u=I.k\/K.u=I.kl\/K.u=J.u\/I.pv.ownBlock=some K.u\/J.tv.ownBlock=some K.u):=λd=>by
    rcases d with d|d|d|d|d|d
    .exact h.fD _ f.xt d
    .exact cU f.tx q.st (by decide) d
    .exact cU f.tx q.lp (by decide) d
    .exact iM h.nu Bk t dG d
    .exact q.pl.ne d f.tx (by decide) rfl
    .exact v.pl.ne d f.tx (by decide) rfl
   have zr:∀g,K.tv.ownBlock=some g->¬(F g\/g=I.k\/g=I.kl\/g=J.u\/I.pv.ownBlock=some g\/J.tv.ownBlock=some g):=λg e d=>by
    rcases d with d|d|d|d|d|d
    .exact h.fD _ (f.pl.row g e) d
    .exact f.pl.ne e q.st (by decide) d
    .exact f.pl.ne e q.lp (by decide) d
    .exact f.pl.ne e v.tx (by decide) d
    .exact h.r3 I (gu m) K (gu Bk) g d e
    .exact h.r2 _ _ _ _ Bk t dG g e d
   by_cases P:K.i=i
   .rw [P,m] at E;cases E;exact⟨I',by rw [P];exact List.getElem?_set_self uG,by rw [xq];exact f.other W U hy zu zr z⟩
   .exact⟨M,by rw [List.getElem?_set_ne (λh=>P h.symm)];exact E,f.other W U rfl zu zr z⟩
 .rcases dg m D with ⟨_,rfl⟩|⟨N,EC⟩<;> rcases dg m x with ⟨_,rfl⟩|⟨O,eC⟩
  .omega
  .rcases aaI g o with l|l
   .exact h.r1 _ _ _ _ m eC (λe=>O e.symm) g l p
   .have:=Tl eC g p;omega
  .rcases aaI g p with l|l
   .exact h.r1 _ _ _ _ EC m N g o l
   .have:=Tl EC g o;omega
  .exact h.r1 _ _ _ _ EC eC oz g o p
 .rcases dg t D with ⟨_,rfl⟩|⟨N,EC⟩<;> rcases dg t x with ⟨_,rfl⟩|⟨O,eC⟩
  .omega
  .rcases aaJ g o with l|l
   .exact h.r2 _ _ _ _ t eC (λe=>O e.symm) g l p
   .have:=K8 eC g p;omega
  .rcases aaJ g p with l|l
   .exact h.r2 _ _ _ _ EC t N g o l
   .have:=K8 EC g o;omega
  .exact h.r2 _ _ _ _ EC eC oz g o p
 .obtain⟨a,D⟩:=List.mem_iff_getElem?.1 hA;obtain⟨b,x⟩:=List.mem_iff_getElem?.1 hB;rcases dg m D with ⟨_,rfl⟩|⟨N,EC⟩<;> rcases dg t x with ⟨_,rfl⟩|⟨O,eC⟩
  .exact Y g o p
  .rcases aaI g o with l|l
   .exact h.r3 I (gu m) B (gu eC) g l p
   .have:=K8 eC g p;omega
  .rcases aaJ g p with l|l
   .exact h.r3 A (gu EC) J (gu t) g o l
   .have:=Tl EC g o;omega
  .exact h.r3 A (gu EC) B (gu eC) g o p
end
end
section
theorem iy {l:List Nat} {x:Nat} (h:l.Nodup) (f:x∉l):(l ++ [x]).Nodup:=by
 rw [List.nodup_append];exact⟨h,by simp,λa c b d e=>by
  have:b=x:=by simpa using d
  exact f (this▸e▸c)⟩
section
variable {w w':World} {F F' P:Nat->Prop} {p s c c' i:Nat} {S S':DS} {ss:List PI} {ts:List PT} {I:PI} {G':SG}
theorem PW.lA (h:PW w F P p s S c ss ts) (m:∀g,F' g->more F w w' g) (hd:B.ax w' F' p s S' c') (a:aa F w w'):PW w' F' P p s S' c' ss ts:=by
 refine⟨hd,λg f i=>?_,λg f=>iP (h.lt g f) a.size,λI n=>?_,λJ o=>?_,h.nq,h.nl,h.nm,h.nt⟩
 .rcases m g i with i|i
  .exact h.fD g f i
  .have:=h.lt g f;omega
 .obtain⟨e,j,k,⟨b,d,p3⟩,l⟩:=h.st I n;exact⟨e.au a (h.fD _ b),j.au a (h.fD _ d),k.au a (h.fD _ p3),⟨b,d,p3⟩,l⟩
 .obtain⟨I,q,e,j,⟨b,d⟩,k⟩:=h.tx J o;exact⟨I,q,(a.block _ (aw e) (h.fD _ b)).trans e,j.au a (h.fD _ d),⟨b,d⟩,k⟩
theorem PW.onS (h:PW w F P p s S c ss ts) (j:ss[i]? =some I) (Q:G'.y=I.G.y) (O:∀g,F' g->more F w w' g) (bt:ig w' F' p s c' I.q I.l I.m S' G') (u:aa (λg=>F g\/g=I.q\/g=I.l\/g=I.m) w w'):
  PW w' F' P p s S' c' (ss.set i {I with G:=G'}) ts:=by
 obtain⟨WE,WF,o,⟨U,R,T⟩,_⟩:=h.st I (gu j);have wP:=List.nodup_append.1 h.nm;refine⟨bt.d,λg D a=>?_,λg D=>iP (h.lt g D) u.size,λK C=>?_,λK C=>?_,by rw [mU (f:=λx:PI=>x.q) (b:={I with G:=G'}) j rfl];exact h.nq,by rw [mU (f:=λx:PI=>x.l) (b:={I with G:=G'}) j rfl];exact h.nl,by rw [mU (f:=λx:PI=>x.m) (b:={I with G:=G'}) j rfl];exact h.nm,h.nt⟩
 .rcases O g a with a|a
  .exact h.fD g D a
  .have:=h.lt g D;omega
 .obtain⟨n,v⟩:=List.mem_iff_getElem?.1 C;rcases dg j v with ⟨_,rfl⟩|⟨e,v⟩
  .exact⟨bt.st,bt.lp,bt.ch,⟨U,R,T⟩,bt.lk,bt.bg,bt.hs,bt.kb⟩
  .obtain⟨k,r,t,⟨z,A,p3⟩,N⟩:=h.st K (gu v);refine⟨k.au u (λa=>?_),r.au u (λa=>?_),t.au u (λa=>?_),⟨z,A,p3⟩,N⟩
   .rcases a with a|a|a|a
    .exact h.fD _ z a
    .exact iM h.nq v j e a
    .exact cU k WF (by decide) a
    .exact k9 o k a.symm
   .rcases a with a|a|a|a
    .exact h.fD _ A a
    .exact cU r WE (by decide) a
    .exact iM h.nl v j e a
    .exact k9 o r a.symm
   .rcases a with a|a|a|a
    .exact h.fD _ p3 a
    .exact k9 t WE a
    .exact k9 t WF a
    .exact iM wP.1 v j e a
 .obtain⟨M,H,k,r,⟨z,A⟩,t⟩:=h.tx K C;have J:=(u.block _ (aw k) (λa=>by
   rcases a with a|a|a|a
   .exact h.fD _ z a
   .exact cU k WE (by decide) a
   .exact cU k WF (by decide) a
   .exact k9 o k a.symm)).trans k
  have L:=r.au u (λa=>by
   rcases a with a|a|a|a
   .exact h.fD _ A a
   .exact k9 r WE a
   .exact k9 r WF a
   .exact(wP.2.2 I.m (List.mem_map_of_mem (gu j)) K.n (List.mem_map_of_mem C)) a.symm)
  by_cases E:K.i=i
  .rw [E,j] at H;cases H;exact⟨{I with G:=G'},by rw [E];exact List.getElem?_set_self ((mG.1 j).1),J,L,⟨z,A⟩,by rw [show ({I with G:=G'}:PI).G=G' from rfl,Q];exact t⟩
  .exact⟨M,by rw [List.getElem?_set_ne (λh=>E h.symm)];exact H,J,L,⟨z,A⟩,t⟩
theorem PW.push {q l m:Nat} (h:PW w F P p s S c ss ts) (z:∀g,F' g->more F w w' g) (bt:ig w' F' p s c' q l m S' G') (G:w.heap.size<=q) (D:w.heap.size<=l) (E:w.heap.size<=m) (A:aa F w w'):
  PW w' F' (λg=>P g\/g=q\/g=l\/g=m) p s S' c' (ss ++ [⟨q,l,m,G'⟩]) ts:=by
 have hd:=h.lA z bt.d A;have old:∀{g},P g->g<w.heap.size:=λj=>h.lt _ j;have wP:=List.nodup_append.1 h.nm;refine⟨bt.d,λg j i=>?_,λg j=>?_,λK f=>?_,λK f=>?_,?_,?_,?_,h.nt⟩
 .rcases j with j|rfl|rfl|rfl
  .exact hd.fD g j i
  .exact bt.nq i
  .exact bt.nl i
  .exact bt.nm i
 .rcases j with j|rfl|rfl|rfl
  .exact hd.lt g j
  .exact bt.st.lt
  .exact bt.lp.lt
  .exact bt.ch.lt
 .rcases List.mem_append.1 f with f|f
  .obtain⟨o,r,t,⟨u,n,p3⟩,y⟩:=hd.st K f;exact⟨o,r,t,⟨.inl u, .inl n, .inl p3⟩,y⟩
  .rw [List.mem_singleton.1 f];exact⟨bt.st,bt.lp,bt.ch,⟨.inr (.inl rfl), .inr (.inr (.inl rfl)), .inr (.inr (.inr rfl))⟩,bt.lk,bt.bg,bt.hs,bt.kb⟩
 .obtain⟨M,v,o,r,⟨u,n⟩,t⟩:=hd.tx K f;exact⟨M,by rw [List.getElem?_append_left (mG.1 v).1];exact v,o,r,⟨.inl u, .inl n⟩,t⟩
 .rw [List.map_append];refine iy h.nq (λi=>?_);obtain⟨K,f,e⟩:=List.mem_map.1 i;have:=old (h.st K f).2.2.2.1.1;simp only at e;omega
 .rw [List.map_append];refine iy h.nl (λi=>?_);obtain⟨K,f,e⟩:=List.mem_map.1 i;have:=old (h.st K f).2.2.2.1.2.1;simp only at e;omega
 .rw [List.map_append,List.nodup_append];refine⟨iy wP.1 (λi=>?_),wP.2.1,λa k b x=>?_⟩
  .obtain⟨K,f,e⟩:=List.mem_map.1 i;have:=old (h.st K f).2.2.2.1.2.2;simp only at e;omega
  .rcases List.mem_append.1 k with k|k
   .exact wP.2.2 a k b x
   .have C:a=m:=(by simpa using k);obtain⟨K,f,rfl⟩:=List.mem_map.1 x;obtain⟨M,_,_,_,⟨_,n⟩,_⟩:=h.tx K f;have:=old n;omega
theorem PW.aaK {t:Nat} (h:PW w F P p s S c ss ts) (D:ss[i]? =some I) (nK:w.heap[t]? =some (.cells (zK I.q n ⟨[],0,false⟩) 98 (0,0))) (nc:Ch w n []) (E:¬P t) (v:¬P n) (z:¬F t) (y:¬F n):
  PW w F (λg=>P g\/g=t\/g=n) p s S c ss (ts ++ [⟨i,t,n,⟨[],0,false⟩⟩]):=by
 have wP:=List.nodup_append.1 h.nm;refine⟨h.d,λg f b=>?_,λg f=>?_,λK a=>?_,λK a=>?_,h.nq,h.nl,?_,?_⟩
 .rcases f with f|rfl|rfl
  .exact h.fD g f b
  .exact z b
  .exact y b
 .rcases f with f|rfl|rfl
  .exact h.lt g f
  .exact aw nK
  .exact nc.lt
 .obtain⟨o,r,u,⟨k,l,p3⟩,A⟩:=h.st K a;exact⟨o,r,u,⟨.inl k, .inl l, .inl p3⟩,A⟩
 .rcases List.mem_append.1 a with a|a
  .obtain⟨M,C,o,r,⟨k,l⟩,u⟩:=h.tx K a;exact⟨M,C,o,r,⟨.inl k, .inl l⟩,u⟩
  .rw [List.mem_singleton.1 a];exact⟨I,D,nK,nc,⟨.inr (.inl rfl), .inr (.inr rfl)⟩,λx b=>by cases b⟩
 .rw [List.map_append,<-List.append_assoc];refine iy h.nm (λb=>?_);rcases List.mem_append.1 b with b|b
  .obtain⟨K,a,e⟩:=List.mem_map.1 b;have j:K.m=n:=e;exact v (j▸(h.st K a).2.2.2.1.2.2)
  .obtain⟨K,a,e⟩:=List.mem_map.1 b;obtain⟨M,_,_,_,⟨_,l⟩,_⟩:=h.tx K a;have j:K.n=n:=e;exact v (j▸l)
 .rw [List.map_append];refine iy h.nt (λb=>?_);obtain⟨K,a,e⟩:=List.mem_map.1 b;obtain⟨M,_,_,_,⟨k,_⟩,_⟩:=h.tx K a;have j:K.t=t:=e;exact E (j▸k)
end
end
section
section
variable {w w':World} {F F' X X' X2:Nat->Prop} {r s i j:Nat} {S S':DS} {ss:List RI} {ts:List RJ} {I I':RI} {J J':RJ}
theorem iz.ni {j:Value} (h:iz w F X r s S k kl G j ps hm nv) (d:aa F w w') (n:∀g,F' g->more F w w' g) (o:G.L.dead S'=false->G.L.dead S=false/\∀b,b<G.y.blocks->S'.now (G.y.home+b)=S.now (G.y.home+b)):iz w' F' X r s S' k kl G j ps hm nv:=
   ⟨h.st.au d (h.fD _ h.xk),h.lp.au d (h.fD _ h.xl),h.pl.au d (λg e=>h.fD _ (h.pl.row g e)) (λg _ _ f _=>h.fD g f),h.xk,h.xl,λg a f=>(n g f).elim (h.fD g a) (λf=>by have:=h.lt g a;omega),λg a=>iP (h.lt g a) d.size,h.lk,h.bg,h.hs,h.lh,h.ov,h.hm,h.kb,λhd b i a c p=>by
  obtain⟨l,m⟩:=o hd;rw [m b i];exact h.un l b i a c p⟩
theorem RW.lA (h:RW w F X r s S ss ts) (d:∀g,F' g->more F w w' g) (l:aB w' F' r s S') (c:aa F w w') (k:∀I∈ss,I.G.L.dead S'=false->I.G.L.dead S=false/\∀b,b<I.G.y.blocks->S'.now (I.G.y.home+b)=S.now (I.G.y.home+b)):RW w' F' X r s S' ss ts:=by
 refine⟨l,λg a f=>(d g f).elim (h.fD g a) (λf=>by have:=h.lt g a;omega),λg a=>iP (h.lt g a) c.size,λI e=>(h.st I e).ni c d (k I e),λJ j=>?_,h.nk,h.nl,h.nu,h.r1,h.r2,h.r3⟩;obtain⟨I,m,i⟩:=h.tx J j;exact⟨I,m,i.au c h.fD⟩
theorem RW.onS (h:RW w F X r s S ss ts) (j:ss[i]? =some I) (xq:I'.k=I.k) (MS:I'.kl=I.kl) (W:I'.G.y=I.G.y)
    (R:aB w' F' r s S') (bt:iz w' F' X r s S' I'.k I'.kl I'.G I'.pv I'.ps I'.hm I'.nv) (wW:I'.pv=I.pv)
    (z:aa (λg=>F g\/g=I.k\/g=I.kl) w w') (P:S'=S\/∀n K,ss[n]? =some K->n≠i->K.G.L.dead S'=true):
  RW w' F' X r s S' (ss.set i I') ts:=by
 have l:=h.jI j;have m:∀g c H,X g->ay w 5 g c H->¬(F g\/g=I.k\/g=I.kl):=λg c H T D d=>by
  rcases d with d|d|d
  .exact h.fD g T d
  .exact D.ne l.st (by decide) d
  .exact D.ne l.lp (by decide) d
 refine⟨R,bt.fD,bt.lt,λK t=>?_,λK t=>?_,by rw [mU j xq];exact h.nk,by rw [mU j MS];exact h.nl,h.nu,λa b A B x Q oz g o p=>?_,h.r2,λA O B C g o p=>?_⟩
 .obtain⟨n,U⟩:=List.mem_iff_getElem?.1 t;rcases dg j U with ⟨_,rfl⟩|⟨dG,Bk⟩
  .exact bt
  .have f:=h.jI Bk;refine f.other z (λ_ h=>h) bt.fD bt.lt (λd=>?_) (λd=>?_) (λg e d=>?_) m (P.imp id (λh=>h n K Bk dG))
   .rcases d with d|d|d
    .exact h.fD _ f.xk d
    .exact iM h.nk Bk j dG d
    .exact cU f.st l.lp (by decide) d
   .rcases d with d|d|d
    .exact h.fD _ f.xl d
    .exact cU f.lp l.st (by decide) d
    .exact iM h.nl Bk j dG d
   .rcases d with d|d|d
    .exact h.fD _ (f.pl.row g e) d
    .exact f.pl.ne e l.st (by decide) d
    .exact f.pl.ne e l.lp (by decide) d
 .obtain⟨M,v,f⟩:=h.tx K t;have N:¬(F K.u\/K.u=I.k\/K.u=I.kl):=λd=>by
   rcases d with d|d|d
   .exact h.fD _ f.xt d
   .exact cU f.tx l.st (by decide) d
   .exact cU f.tx l.lp (by decide) d
  have J:∀g,K.tv.ownBlock=some g->¬(F g\/g=I.k\/g=I.kl):=λg e d=>by
   rcases d with d|d|d
   .exact h.fD _ (f.pl.row g e) d
   .exact f.pl.ne e l.st (by decide) d
   .exact f.pl.ne e l.lp (by decide) d
  by_cases q:K.i=i
  .rw [q,j] at v;cases v;exact⟨I',by rw [q];exact List.getElem?_set_self ((mG.1 j).1),by rw [xq];exact f.other z (λ_ h=>h) W N J m⟩
  .exact⟨M,by rw [List.getElem?_set_ne (λh=>q h.symm)];exact v,f.other z (λ_ h=>h) rfl N J m⟩
 .rcases dg j x with ⟨_,rfl⟩|⟨E,EC⟩<;> rcases dg j Q with ⟨_,rfl⟩|⟨Y,eC⟩
  .omega
  .exact h.r1 _ _ _ _ j eC (λe=>Y e.symm) g (wW▸o) p
  .exact h.r1 _ _ _ _ EC j E g o (wW▸p)
  .exact h.r1 _ _ _ _ EC eC oz g o p
 .obtain⟨a,x⟩:=List.mem_iff_getElem?.1 O;rcases dg j x with ⟨_,rfl⟩|⟨E,EC⟩
  .exact h.r3 I (gu j) B C g (wW▸o) p
  .exact h.r3 A (gu EC) B C g o p
theorem RW.push (h:RW w F X r s S ss ts) (z:∀g,F' g->more F w w' g) (Ml:∀g,X2 g->w.heap.size<=g) (t:aB w' F' r s S') (bt:iz w' F' X2 r s S' I.k I.kl I.G I.pv I.ps I.hm I.nv) (wW:I.pv.ownBlock=none) (H:aa F w w') (C:∀K∈ss,K.G.L.dead S'=true):
  RW w' F' (λg=>X g\/X2 g) r s S' (ss ++ [I]) ts:=by
 have hd:=h.lA z t H (λK c i=>by rw [C K c] at i;cases i);have BQ:∀g,(X g\/X2 g)->¬F' g:=λg o=>o.elim (hd.fD g) (bt.fD g);have d:∀g,(X g\/X2 g)->g<w'.heap.size:=λg o=>o.elim (hd.lt g) (bt.lt g);have N:∀{K:RI},iz w' F' X r s S' K.k K.kl K.G K.pv K.ps K.hm K.nv->iz w' F' (λg=>X g\/X2 g) r s S' K.k K.kl K.G K.pv K.ps K.hm K.nv:=λg=>⟨g.st,g.lp,g.pl.mono (λ_ h=> .inl h), .inl g.xk, .inl g.xl,BQ,d,g.lk,g.bg,g.hs,g.lh,g.ov,g.hm,g.kb,g.un⟩;refine⟨t,BQ,d,λK c=>?_,λK c=>?_,?_,?_,h.nu,λa b A B D E oz g f m=>?_,h.r2,λA j B y g f m=>?_⟩
 .rcases List.mem_append.1 c with c|c
  .exact N (hd.st K c)
  .rw [List.mem_singleton.1 c];exact⟨bt.st,bt.lp,bt.pl.mono (λ_ h=> .inr h), .inr bt.xk, .inr bt.xl,BQ,d,bt.lk,bt.bg,bt.hs,bt.lh,bt.ov,bt.hm,bt.kb,bt.un⟩
 .obtain⟨M,q,g⟩:=hd.tx K c;exact⟨M,by rw [List.getElem?_append_left (mG.1 q).1];exact q,g.mono (λ_ h=> .inl h)⟩
 .rw [List.map_append];refine iy h.nk (λi=>?_);obtain⟨K,c,e⟩:=List.mem_map.1 i;have u:K.k=I.k:=e;have v:=h.lt _ (h.st K c).xk;have x:=Ml _ bt.xk;omega
 .rw [List.map_append];refine iy h.nl (λi=>?_);obtain⟨K,c,e⟩:=List.mem_map.1 i;have u:K.kl=I.kl:=e;have v:=h.lt _ (h.st K c).xl;have x:=Ml _ bt.xl;omega
 .have l:∀{n:Nat} {A:RI},(ss ++ [I])[n]? =some A->A.pv.ownBlock=some g->ss[n]? =some A:=λ{n A} p e=>by
   by_cases J:n<ss.length
   .rwa [List.getElem?_append_left J] at p
   .rw [List.getElem?_append_right (by omega)] at p;have:A=I:=by
     have:=gu p;simpa using this
    rw [this,wW] at e;cases e
  exact h.r1 _ _ _ _ (l D f) (l E m) oz g f m
 .rcases List.mem_append.1 j with j|j
  .exact h.r3 A j B y g f m
  .rw [List.mem_singleton.1 j,wW] at f;cases f
theorem RW.aaK (h:RW w F X r s S ss ts) (E:ss[i]? =some I) (nK:nf w u I.k (.slice none 0 0) ⟨[],0,false⟩) (H:¬X u) (y:¬F u):
  RW w F (λg=>X g\/g=u) r s S ss (ts ++ [⟨i,u, .slice none 0 0, [],⟨[],0,false⟩⟩]):=by
 have BQ:∀g,(X g\/g=u)->¬F g:=λg o=>o.elim (h.fD g) (λe=>e▸y);have l:∀g,(X g\/g=u)->g<w.heap.size:=λg o=>o.elim (h.lt g) (λe=>e▸nK.lt);refine⟨h.e,BQ,l,λK c=>?_,λK c=>?_,h.nk,h.nl,?_,h.r1,λa b A B C D oz g m d=>?_,λA z B f g m d=>?_⟩
 .have g:=h.st K c;exact⟨g.st,g.lp,g.pl.mono (λ_ h=> .inl h), .inl g.xk, .inl g.xl,BQ,l,g.lk,g.bg,g.hs,g.lh,g.ov,g.hm,g.kb,g.un⟩
 .rcases List.mem_append.1 c with c|c
  .obtain⟨M,t,g⟩:=h.tx K c;exact⟨M,t,g.mono (λ_ h=> .inl h)⟩
  .rw [List.mem_singleton.1 c];exact⟨I,E,⟨nK, .inr rfl,Pl.nil _ _,List.nodup_nil,λ_=>rfl,λx q=>(by cases q),dU _⟩⟩
 .rw [List.map_append];refine iy h.nu (λq=>?_);obtain⟨K,c,e⟩:=List.mem_map.1 q;have v:K.u=u:=e;obtain⟨M,t,g⟩:=h.tx K c;exact H (v▸g.xt)
 .have j:∀{n:Nat} {A:RJ},(ts ++ [⟨i,u, .slice none 0 0, [],⟨[],0,false⟩⟩])[n]? =some A->A.tv.ownBlock=some g->ts[n]? =some A:=λ{n A} p e=>by
   by_cases G:n<ts.length
   .rwa [List.getElem?_append_left G] at p
   .rw [List.getElem?_append_right (by omega)] at p;have:A=⟨i,u, .slice none 0 0, [],⟨[],0,false⟩⟩:=by
     have:=gu p;simpa using this
    rw [this] at e;simp [Value.ownBlock] at e
  exact h.r2 _ _ _ _ (j C m) (j D d) oz g m d
 .rcases List.mem_append.1 f with f|f
  .exact h.r3 A z B f g m d
  .rw [List.mem_singleton.1 f] at d;simp [Value.ownBlock] at d
end
end
def IN (n:Int) (i:Nat):Int:=if i%7=3 then IntKind.u8.wrap (n / 256) else IntKind.u8.wrap n
def zI9 (n:Int):List Int:=(List.range 512).map (IN n)
theorem uC (n:Int):(zI9 n).length=512:=by simp [zI9]
def BT (n:Int) (k:Nat):List Int:=(List.range k).map (IN n) ++ List.replicate (512-k) 0
theorem TT (n:Int) (h:k<=512):(BT n k).length=512:=by simp [BT];omega
theorem TU (n:Int) (h:k<512):(BT n k).set k (IN n k)=BT n (k+1):=by
 unfold BT;rw [List.set_append_right _ _ (by simp),List.range_succ,List.map_append,List.append_assoc];congr 1;simp only [List.length_map,List.length_range,Nat.sub_self];rw [show 512-k=(512-(k+1))+1 by omega,List.replicate_succ];rfl
theorem TV (n:Int):BT n 512=zI9 n:=by simp [BT,zI9]
theorem O6 (n:Int) (w:World):
  Calls prog 132 #[iV n] w λe w'=>e= .returned (.slice (some (aD w.heap.size 0)) 512 512)/\ay w' 5 w.heap.size 512 (bs (zI9 n))/\bW w w':=by
 obtain⟨r,p,gv,dr,ec⟩:=info_parts fW;go_in;go_wp2_with (at_make;refine wpList_make_full _ rfl _ _ 36 rfl w.heap.size 5 r (.int .u8 0) 1 underlying36 p gv dr _ _ _ _ 512 rfl rfl (by omega) (by omega) (by rw [ec];omega) (by unfold maxLen;omega) (bP _) ?_);intro w1 az aO;have g:=(bi _ w).grown aO (bP _) (by intro k d;cases d);have j:Full w1 w.heap.size (BT n 0):=(lJ az).full (by simp [bs]);have m:=j;have l:=g;clear az aO j g;go_wp2;go_loopw [4] (λi wr=>∃k:Nat,k<=512/\i=iV (k:Int)/\Full wr w.heap.size (BT n k)/\bW w wr) (λi _=>512-(intOf i).toNat);case atStart=>exact⟨0,by omega,rfl,m,l⟩
 case round=>
  obtain⟨k,d,rfl,zt,dO⟩:=hrel;by_cases q:k<512
  .have s:(k:Int)<512:=(by omega);have t:=zt.cell (i:=k) (by rw [TT n d];exact q);have v:=zt.frozen k;have u:(k:Int).tmod 7=((k%7:Nat):Int):=(by rw [Int.tmod_eq_emod_of_nonneg (by omega)];omega);have a:=zt;have l9:=dO;have f:=TU n q;clear zt dO;by_cases c:k%7=3
   .have o:(((k%7:Nat):Int) == 3)=true:=(by rw [c];rfl);have X8:IN n k=IntKind.u8.wrap (n / 256):=(by unfold IN;rw [aE c]);have b:=X8;clear X8 c;go_wp2;go_roundw;case rel=>exact⟨k+1,by omega,by go_num,by rw [<-f,b,<-CY (BT n k) k (n%256)];exact(a.set k _).set k _,(l9.setCell (bP _) _).setCell (bP _) _⟩
    case measure=>simp [intOf];omega
   .have o:(((k%7:Nat):Int) == 3)=false:=(by rw [eG];omega);have X8:IN n k=IntKind.u8.wrap n:=(by unfold IN;rw [aA c]);have b:=X8;clear X8 c;go_wp2;go_roundw;case rel=>exact⟨k+1,by omega,by go_num,by rw [<-f,b];exact a.set k _,l9.setCell (bP _) _⟩
    case measure=>simp [intOf];omega
  .have s:¬(k:Int)<512:=(by omega);obtain rfl:k=512:=(by omega);rw [TV] at zt;have a:=zt;have l9:=dO;clear zt dO;go_wp2;go_ret;exact⟨rfl,by have:=ay.Ev a (by rw [uC];omega);rwa [uC] at this,l9⟩
theorem LC (n:Int):Bytes (zI9 n):=λx c=>by
 unfold zI9 at c;obtain⟨i,_,rfl⟩:=List.mem_map.1 c;unfold IN;split
 .have a:0<=n / 256%256:=Int.emod_nonneg _ (by decide);have b:n / 256%256<256:=Int.emod_lt_of_pos _ (by decide);exact⟨a,b⟩
 .have a:0<=n%256:=Int.emod_nonneg _ (by decide);have b:n%256<256:=Int.emod_lt_of_pos _ (by decide);exact⟨a,b⟩
abbrev iO (kd ag A B:Int) (da:Option Addr) (dn dc:Nat) (pa:Option Addr) (pn pc:Nat) (x y z:Int):Array Value:= #[iV kd,iV ag,iV A,iV B, .slice da dn dc, .slice pa pn pc,iV x,iV y,iV z]
def ld (B:Int) (d:List Int):List Int:=if d.length=0/\B≠0 then zI9 B else d
theorem lB (o m A B:Int) (i:Option Addr) (a k:Nat) (p:Option Addr) (s r:Nat) (x y z:Int) (d:List Int) (w:World) (n:Src w i a d) (E:a<=140737488355328):
  Calls prog 80 #[.agg (iO o m A B i a k p s r x y z)] w λe w'=>∃g,e= .returned (.slice (some (aD g 0)) (ld B d).length (ld B d).length)/\w.heap.size<=g/\ay w' 5 g (ld B d).length (bs (ld B d))/\bW w w':=by
 have t:=n.1;obtain⟨W,b⟩:=bQ (w.alloc (.cells (iO o m A B i a k p s r x y z) 41));have EB:bW w W:=by rw [b];exact(bi w.heap.size w).alloc (bP _) _
 have BP:W.heap[w.heap.size]? =some (.cells (iO o m A B i a k p s r x y z) 41 (0,0)):=by rw [b];exact heap_alloc_new _ _
 have G:W.cell? (aD w.heap.size 3)=some (iV B):=fI BP;have H:W.cell? (aD w.heap.size 4)=some (.slice i a k):=gz BP;have l:=tf i a k d W E (n.later EB);have CQ:=EB;have Hv:W.heap.size=w.heap.size+1:=by rw [b,World.size_alloc]
 unfold ld;clear n EB BP;by_cases q:d.length=0/\B≠0
 .rw [aE q,uC];obtain⟨u,v⟩:=q;obtain rfl:a=0:=by omega
  have C:(B != 0)=true:=by rw [fT];exact v
  clear v l;go_in;go_wp2_with fail;try rw [<-b]
  try clear b
  try go_wp2_with fail
  refine(O6 B W).mono ?_;rintro e w1 ⟨rfl,f,c⟩;have j:=(aF f (CQ.trans (c.mono (by omega))));clear f c;go_wp2;go_ret;exact⟨w.heap.size+1,rfl,by omega,by rw [<-Hv];exact j⟩
 .rw [aA q,t];by_cases u:a=0
  .subst u;have C:(B != 0)=false:=(by rw [bne_eq_false_iff_eq];exact Decidable.byContradiction (λh=>q ⟨t,h⟩));clear q;go_in;go_wp2_with fail;try rw [<-b]
   try clear b
   try go_wp2_with fail
   refine l.mono ?_;rintro e w1 ⟨g,rfl,D,f,c⟩;have j:=(aF f (CQ.trans (c.mono (by omega))));clear l f c;go_wp2;go_ret;exact⟨g,rfl,by omega,j⟩
  .have F:((a:Int) == 0)=false:=(by rw [eG];omega);clear q;go_in;go_wp2_with fail;try rw [<-b]
   try clear b
   try go_wp2_with fail
   refine l.mono ?_;rintro e w1 ⟨g,rfl,D,f,c⟩;have j:=(aF f (CQ.trans (c.mono (by omega))));clear l f c;go_wp2;go_ret;exact⟨g,rfl,by omega,j⟩
section
abbrev pV (l:Nat):Value:=pQ l
abbrev Ut (p r:Nat) (v1 v2 v3 v4:Value):Array Value:= #[pV p,pV r,v1,v2,v3,v4]
structure W5 (w:World) (q:Nat) (F P F2 X O:Nat->Prop) (p r s:Nat) (S S2:DS) (c:Nat) (v1 v2 v3 v4:Value) (ss:List PI) (ts:List PT) (rs:List RI) (us:List RJ):Prop where
 box:w.heap[q]? =some (.cells (Ut p r v1 v2 v3 v4) 35 (0,0))
 oq:O q
 oW:∀g,O g->g<w.heap.size
 pw:PW w F P p s S c ss ts
 rw:RW w F2 X r s S2 rs us
 o1:w.ownsRow 0 53 1 v1 ss.length (ss.map (λI=>pV I.q))
 q1:∀g,v1.ownBlock=some g->O g
 o2:w.ownsRow 0 110 1 v2 rs.length (rs.map (λI=>pV I.k))
 q2:∀g,v2.ownBlock=some g->O g
 o3:w.ownsRow 0 56 1 v3 ts.length (ts.map (λJ=>pV J.t))
 q3:∀g,v3.ownBlock=some g->O g
 o4:w.ownsRow 0 122 1 v4 us.length (us.map (λJ=>pV J.u))
 q4:∀g,v4.ownBlock=some g->O g
 ad:∀g,(F g\/P g)->¬(F2 g\/X g)
 oa:∀g,O g->¬(F g\/P g)
 od:∀g,O g->¬(F2 g\/X g)
structure Lk (S:DS) (s N:Nat) (ss:List PI) (ts:List PT) (rs:List RI) (us:List RJ):Prop where
 sl:rs.length=ss.length
 sg:∀(i:Nat) (I:PI) (R:RI),ss[i]? =some I->rs[i]? =some R->R.G=I.G
 tl:us.length=ts.length
 tg:∀(j:Nat) (J:PT) (K:RJ),ts[j]? =some J->us[j]? =some K->K.i=J.i/\K.T=J.T
 inv:V.Inv S s (ss.map (λI=>I.G.L)) N
 now:∀(i:Nat) (I:PI) (R:RI),ss[i]? =some I->rs[i]? =some R->
    (R.nv= .pointer none/\I.G.busy=false/\∀(j:Nat) (J:PT),ts[j]? =some J->J.i=i->J.T.ended=true)\/
  ∃(j:Nat) (J:PT) (K:RJ),ts[j]? =some J/\us[j]? =some K/\J.i=i/\R.nv=pV K.u/\J.T.ended=!I.G.busy/\∀(j':Nat) (J':PT),ts[j']? =some J'->J'.i=i->j'≠j->J'.T.ended=true
 cs:∀R∈rs,R.ps.length<=N
 ct:∀(i:Nat) (R:RI) (K:RJ),rs[i]? =some R->K∈us->K.i=i->K.T.ended=false->R.ps.length+K.us.length<=N
 rf:S.refused=0
section
variable {w w':World} {q:Nat} {F P F2 X O F' P' X':Nat->Prop} {p r s c c':Nat} {S S2 S':DS} {v1 v2 v3 v4:Value} {ss Tm:List PI} {ts WG:List PT} {rs Ba:List RI} {us KB:List RJ}
theorem W5.c0 (h:W5 w q F P F2 X O p r s S S2 c v1 v2 v3 v4 ss ts rs us):w.cell? (aD q 0)=some (pV p):=aL h.box
theorem W5.c1 (h:W5 w q F P F2 X O p r s S S2 c v1 v2 v3 v4 ss ts rs us):w.cell? (aD q 1)=some (pV r):=bD h.box
theorem W5.c2 (h:W5 w q F P F2 X O p r s S S2 c v1 v2 v3 v4 ss ts rs us):w.cell? (aD q 2)=some v1:=bH h.box
theorem W5.c3 (h:W5 w q F P F2 X O p r s S S2 c v1 v2 v3 v4 ss ts rs us):w.cell? (aD q 3)=some v2:=fI h.box
theorem W5.c4 (h:W5 w q F P F2 X O p r s S S2 c v1 v2 v3 v4 ss ts rs us):w.cell? (aD q 4)=some v3:=gz h.box
theorem W5.c5 (h:W5 w q F P F2 X O p r s S S2 c v1 v2 v3 v4 ss ts rs us):w.cell? (aD q 5)=some v4:=rU h.box
theorem W5.au (h:W5 w q F P F2 X O p r s S S2 c v1 v2 v3 v4 ss ts rs us) (b:aa Z w w') (d:∀g,(F g\/P g\/F2 g\/X g\/O g)->¬Z g):W5 w' q F P F2 X O p r s S S2 c v1 v2 v3 v4 ss ts rs us:=by
 have f:=λg a=>d g (.inr (.inr (.inr (.inr a))));exact⟨(b.block q (h.oW q h.oq) (f q h.oq)).trans h.box,h.oq,λg a=>iP (h.oW g a) b.size,h.pw.au b (λg a=>d g (.inl a)) (λg a=>d g (.inr (.inl a))),h.rw.au b (λg a=>d g (.inr (.inr (.inl a)))) (λg a=>d g (.inr (.inr (.inr (.inl a))))),aC h.o1 (λg e=>b.block g (h.oW g (h.q1 g e)) (f g (h.q1 g e))),h.q1,aC h.o2 (λg e=>b.block g (h.oW g (h.q2 g e)) (f g (h.q2 g e))),h.q2,aC h.o3 (λg e=>b.block g (h.oW g (h.q3 g e)) (f g (h.q3 g e))),h.q3,aC h.o4 (λg e=>b.block g (h.oW g (h.q4 g e)) (f g (h.q4 g e))),h.q4,h.ad,h.oa,h.od⟩
theorem W5.later (h:W5 w q F P F2 X O p r s S S2 c v1 v2 v3 v4 ss ts rs us) (a:bW w w'):W5 w' q F P F2 X O p r s S S2 c v1 v2 v3 v4 ss ts rs us:=h.au (aa.ah (λ_=>False) a) (λ_ _ h=>h)
theorem W5.prog (h:W5 w q F P F2 X O p r s S S2 c v1 v2 v3 v4 ss ts rs us) (i:PW w' F' P p s S' c' Tm WG) (d:aa (λg=>F g\/P g) w w') (m:∀g,F' g->more F w w' g) (j:Tm.map (λI=>pV I.q)=ss.map (λI=>pV I.q)) (k:WG.map (λJ=>pV J.t)=ts.map (λJ=>pV J.t)):W5 w' q F' P F2 X O p r s S' S2 c' v1 v2 v3 v4 Tm WG rs us:=by
 have f:=h.oa;have n:Tm.length=ss.length:=by have:=congrArg List.length j;simpa using this
 have o:WG.length=ts.length:=by have:=congrArg List.length k;simpa using this
 have l:=λg a=>(m g a).imp id (λh=>h.1);refine⟨(d.block q (h.oW q h.oq) (f q h.oq)).trans h.box,h.oq,λg a=>iP (h.oW g a) d.size,i,h.rw.au d (λg a b=>h.ad g b (.inl a)) (λg a b=>h.ad g b (.inr a)),by rw [n,j];exact aC h.o1 (λg e=>d.block g (h.oW g (h.q1 g e)) (f g (h.q1 g e))),h.q1,aC h.o2 (λg e=>d.block g (h.oW g (h.q2 g e)) (f g (h.q2 g e))),h.q2,by rw [o,k];exact aC h.o3 (λg e=>d.block g (h.oW g (h.q3 g e)) (f g (h.q3 g e))),h.q3,aC h.o4 (λg e=>d.block g (h.oW g (h.q4 g e)) (f g (h.q4 g e))),h.q4,λg a b=>?_,λg a b=>?_,h.od⟩
 .rcases a with a|a
  .rcases l g a with a|a
   .exact h.ad g (.inl a) b
   .rcases b with b|b
    .have:=h.rw.e.lt g b;omega
    .have:=h.rw.lt g b;omega
  .exact h.ad g (.inr a) b
 .rcases b with b|b
  .rcases l g b with b|b
   .exact h.oa g a (.inl b)
   .have:=h.oW g a;omega
  .exact h.oa g a (.inr b)
theorem W5.doc {Yc:Nat->Prop} (h:W5 w q F P F2 X O p r s S S2 c v1 v2 v3 v4 ss ts rs us) (l:RW w' Yc X' r s S' Ba KB) (i:aa (λg=>F2 g\/X g) w w') (v:∀g,Yc g->more F2 w w' g) (x:∀g,X' g->more X w w' g) (m:Ba.map (λI=>pV I.k)=rs.map (λI=>pV I.k)) (n:KB.map (λJ=>pV J.u)=us.map (λJ=>pV J.u)):W5 w' q F P Yc X' O p r s S S' c v1 v2 v3 v4 ss ts Ba KB:=by
 have j:=h.od;have y:Ba.length=rs.length:=by have:=congrArg List.length m;simpa using this
 have z:KB.length=us.length:=by have:=congrArg List.length n;simpa using this
 have o:=λg a=>(v g a).imp id (λh=>h.1);have t:=λg a=>(x g a).imp id (λh=>h.1);refine⟨(i.block q (h.oW q h.oq) (j q h.oq)).trans h.box,h.oq,λg a=>iP (h.oW g a) i.size,h.pw.au i (λg a f=>h.ad g (.inl a) f) (λg a f=>h.ad g (.inr a) f),l,aC h.o1 (λg e=>i.block g (h.oW g (h.q1 g e)) (j g (h.q1 g e))),h.q1,by rw [y,m];exact aC h.o2 (λg e=>i.block g (h.oW g (h.q2 g e)) (j g (h.q2 g e))),h.q2,aC h.o3 (λg e=>i.block g (h.oW g (h.q3 g e)) (j g (h.q3 g e))),h.q3,by rw [z,n];exact aC h.o4 (λg e=>i.block g (h.oW g (h.q4 g e)) (j g (h.q4 g e))),h.q4,λg a f=>?_,h.oa,λg a f=>?_⟩
 .have bm:=a.elim (λb=>h.pw.d.lt g b) (λb=>h.pw.lt g b);rcases f with f|f
  .exact(o g f).elim (λb=>h.ad g a (.inl b)) (λb=>by omega)
  .exact(t g f).elim (λb=>h.ad g a (.inr b)) (λb=>by omega)
 .have bm:=h.oW g a;rcases f with f|f
  .exact(o g f).elim (λb=>h.od g a (.inl b)) (λb=>by omega)
  .exact(t g f).elim (λb=>h.od g a (.inr b)) (λb=>by omega)
theorem vC {w:World} {v:Value} {x:Value} (h:w.ownsRow 0 e 1 v n xs) (b:xs[i]? =some x):∃g cp,v= .slice (some (aD g 0)) n cp/\w.cell? (aD g i)=some x:=by
 have c:=h;obtain⟨d,⟨rfl,h0⟩|⟨g,a,cur,rfl,_⟩⟩:=h
 .rw [h0] at d;have:xs= []:=List.length_eq_zero_iff.1 (by omega);rw [this] at b;cases b
 .refine⟨g,a,rfl,?_⟩;have:=c.cells (g:=g) rfl i _ b;rwa [aK,Nat.zero_add] at this
end
end
section
def bk (n:Nat) (x:Int):Int:=if n=0 then-1 else ((n-1-x.toNat%n:Nat):Int)
theorem Tn (h:0<n) (x:Int):∃i:Nat,i<n/\bk n x=(i:Int):=⟨n-1-x.toNat%n,by omega,by unfold bk;rw [aA (by omega)]⟩
theorem Az (w:World) (n:Nat) (x:Int) (j:x<=9223372036854775807) (i:n<=140737488355328):
  Calls prog 73 #[iV (n:Int),iV x] w λe w'=>e= .returned (iV (bk n x))/\w'=w:=by
 by_cases h0:n=0
 .subst h0;go_in;go_wp2;go_ret;exact⟨rfl,rfl⟩
 .have f:¬(n:Int)=0:=by omega
  have g:((n:Int) == 0)=false:=by rw [eG];omega
  have sd:bk n x=((n-1-x.toNat%n:Nat):Int):=by unfold bk;rw [aA h0]
  rw [sd];clear sd;by_cases k:x<0
  .have a:(0:Int).tmod (n:Int)=0:=(by simp);have b:x.toNat%n=0:=(by rw [show x.toNat=0 by omega];exact Nat.zero_mod n);rw [b];clear b;go_in;go_wp2;go_ret;exact⟨by congr 1;congr 1;first|omega|(simp;omega),rfl⟩
  .obtain⟨y,rfl⟩:∃y:Nat,x=(y:Int):=⟨x.toNat,by omega⟩;rw [Int.toNat_natCast];have a:(y:Int).tmod (n:Int)=((y%n:Nat):Int):=(by rw [Int.tmod_eq_emod_of_nonneg (by omega),<-Int.natCast_emod]);have c:y%n<n:=Nat.mod_lt _ (by omega);have d:IntKind.i64.wrap ((y%n:Nat):Int)=((y%n:Nat):Int):=(by rw [IntKind.wrap_i64];omega);obtain⟨m,BV⟩:=bQ (y%n);rw [<-BV] at a c d⊢;clear BV;go_in;go_wp2;go_ret;exact⟨by congr 1;congr 1;first|omega|(simp;omega),rfl⟩
def E5 (w:World) (q:Nat) (A:Nat->Prop) (p r s N:Nat):Prop:=
 ∃(F P F2 X O:Nat->Prop) (S:DS) (c:Nat) (v1 v2 v3 v4:Value) (ss:List PI) (ts:List PT) (rs:List RI) (us:List RJ),W5 w q F P F2 X O p r s S S c v1 v2 v3 v4 ss ts rs us/\Lk S s N ss ts rs us/\(∀g,(F g\/P g\/F2 g\/X g\/O g)->A g)/\ss.length<=N/\ts.length<=N/\c<=5000*N
def dJ (w w':World) (q:Nat) (A:Nat->Prop) (p r s N:Nat):Prop:=∃A',E5 w' q A' p r s (N+2)/\aa A w w'/\∀g,A' g->A g\/w.heap.size<=g
section
variable {w w':World} {q:Nat} {F P F2 X O A:Nat->Prop} {p r s c N:Nat} {S:DS} {v1 v2 v3 v4:Value} {ss:List PI} {ts:List PT} {rs:List RI} {us:List RJ}
theorem V.Inv.more {a:List LG} {t b:Nat} (h:V.Inv S s a t) (c:t<=b):V.Inv S s a b:=⟨h.ok,h.pO,h.p6,h.p2,h.l0,by have:=h.lt;omega,h.ol,h.li,h.al⟩
theorem Lk.more {M:Nat} (h:Lk S s N ss ts rs us) (a:N<=M):Lk S s M ss ts rs us:=⟨h.sl,h.sg,h.tl,h.tg,h.inv.more a,h.now,λR f=>jQ (h.cs R f) a,λi R K b c d e=>jQ (h.ct i R K b c d e) a,h.rf⟩
theorem dJ.idle (h:W5 w' q F P F2 X O p r s S S c v1 v2 v3 v4 ss ts rs us) (d:Lk S s N ss ts rs us) (a:∀g,(F g\/P g\/F2 g\/X g\/O g)->A g) (e:ss.length<=N) (f:ts.length<=N) (i:c<=5000*N) (b:bW w w'):dJ w w' q A p r s N:=
   ⟨A,⟨F,P,F2,X,O,S,c,v1,v2,v3,v4,ss,ts,rs,us,h,d.more (by omega),a,by omega,by omega,by omega⟩,aa.ah _ b,λ_ h=> .inl h⟩
end
end
section
section
variable {w w':World} {q:Nat} {F P F2 X O A:Nat->Prop} {p r s c N:Nat} {S:DS} {v1 v2 v3 v4:Value} {ss:List PI} {ts:List PT} {rs:List RI} {us:List RJ}
theorem AB {w:World} {v:Value} (h:w.ownsRow 0 e 1 v n xs):∃a cp,v= .slice a n cp:=by
 obtain⟨_,⟨rfl,h0⟩|⟨g,b,cur,rfl,_⟩⟩:=h
 .exact⟨none,0,by rw [h0]⟩
 .exact⟨_,_,rfl⟩
theorem W5.tx (h:W5 w q F P F2 X O p r s S S c v1 v2 v3 v4 ss ts rs us) (a:Lk S s N ss ts rs us) {j:Nat} (d:j<ts.length):∃J K I R,ts[j]? =some J/\us[j]? =some K/\ss[J.i]? =some I/\rs[J.i]? =some R/\K.i=J.i/\K.T=J.T/\R.G=I.G:=by
 obtain⟨I,b,_⟩:=h.pw.tx ts[j] (List.getElem_mem d);have f:us[j]? =some (us[j]'(by rw [a.tl];exact d)):=List.getElem?_eq_getElem _;have e:=List.getElem?_eq_getElem d;have g:rs[ts[j].i]? =some (rs[ts[j].i]'(by rw [a.sl];exact((mG.1 b).1))):=List.getElem?_eq_getElem _;obtain⟨k,l⟩:=a.tg j _ _ e f;exact⟨_,_,I,_,e,f,b,g,k,l,a.sg _ _ _ b g⟩
end
end
end Go.Proofs.YtenlkgicpllbhaaGreat
