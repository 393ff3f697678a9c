import Derived.Test.YtenlkgicpllbhaaGreatW01
import Derived.Test.YtenlkgicpllbhaaGreatW21
set_option maxRecDepth 20000
set_option maxHeartbeats 8000000
set_option linter.all false
namespace Go.Proofs.YtenlkgicpllbhaaGreat
open Go.Proofs.Tryz
open Go.RowKit Go.Maps
variable {S:DS} {L:LG} {d:List Int} {ss:List PI} {ts:List PT} {rs:List RI} {us:List RJ} {vs:List Value} {M N c i j k n p s:Nat} {F:Nat->Prop} {I:PI} {R:RI} {G:SG} {α:Type} {e:TypeId} {v:Value} {w:World}
section
section
variable {w w':World} {F P F2 X:Nat->Prop} {p r s c N q l m t n i j:Nat} {S:DS} {G:SG} {T T':TG} {ss:List PI} {ts:List PT} {rs:List RI} {us:List RJ} {I:PI} {R:RI} {J J':PT} {K K':RJ}
theorem ig.aaL (h:ig w F p s c q l m S G) (b:mx w F q l m t n G T) (e:aa (λg=>g=t\/g=n) w w'):ig w' F p s c q l m S G:=
   ⟨h.d.au e (λg f a=>by rcases a with rfl|rfl;exact b.nt f;exact b.nn f),h.st.au e (λa=>by rcases a with a|a;exact b.tq a.symm;exact b.nq a.symm),h.lp.au e (λa=>by rcases a with a|a;exact b.tl a.symm;exact b.nl a.symm),h.ch.au e (λa=>by rcases a with a|a;exact b.tm a.symm;exact b.nm a.symm),h.nq,h.nl,h.nm,h.ql,h.qm,h.lm,h.lk,h.bg,h.hs,h.kb⟩
theorem mD {l:List α} {i:Nat} {a:α} (h:l[i]? =some a):l.set i a=l:=by
 apply List.ext_getElem?;intro n;by_cases e:n=i
 .subst e;rw [List.getElem?_set_self (mG.1 h).1,h]
 .rw [List.getElem?_set_ne (λh=>e h.symm)]
theorem Lk.K9 (h:Lk S s N ss ts rs us) (d:ts[j]? =some J) (f:us[j]? =some K) (w:J'.i=J.i) (E:K'.i=K.i) (O:K'.u=K.u) (F:K'.T=J'.T) (x:J'.T.ended=J.T.ended) (Z:K'.us.length<=K.us.length+1):Lk S s (N+1) ss (ts.set j J') rs (us.set j K'):=by
 obtain⟨U,W⟩:=h.tg j J K d f;refine⟨h.sl,h.sg,by rw [List.length_set,List.length_set];exact h.tl,λn A B a l=>?_,h.inv.more (by omega),λi I R X g=>?_,λR g=>by have:=h.cs R g;omega,λi R B g l k G=>?_,h.rf⟩
 .rcases dg d a with ⟨P,rfl⟩|⟨H,a⟩<;> rcases dg f l with ⟨Q,rfl⟩|⟨L,l⟩
  .exact⟨by rw [E,w,U],F⟩
  .exact absurd P L
  .exact absurd Q H
  .exact h.tg n A B a l
 .have b:∀(n:Nat) (A:PT),(ts.set j J')[n]? =some A->∃c,ts[n]? =some c/\c.i=A.i/\c.T.ended=A.T.ended:=λn A a=>by
   rcases dg d a with ⟨rfl,rfl⟩|⟨H,a⟩
   .exact⟨J,d,w.symm,x.symm⟩
   .exact⟨A,a,rfl,rfl⟩
  rcases h.now i I R X g with ⟨o,p,q⟩|⟨n,A,B,o,p,q,C,D,M⟩
  .refine .inl ⟨o,p,λn A a k=>?_⟩;obtain⟨c,r,t,v⟩:=b n A a;rw [<-v];exact q n c r (by rw [t];exact k)
  .have rest:∀(m:Nat) (A':PT),(ts.set j J')[m]? =some A'->A'.i=i->m≠n->A'.T.ended=true:=λm A' y k dG=>by
    obtain⟨c,r,t,v⟩:=b m A' y;rw [<-v];exact M m c r (by rw [t];exact k) dG
   by_cases e:n=j
   .subst e;obtain rfl:A=J:=Option.some.inj (o.symm.trans d);obtain rfl:B=K:=Option.some.inj (p.symm.trans f);exact .inr ⟨n,J',K',List.getElem?_set_self ((mG.1 d).1),List.getElem?_set_self ((mG.1 f).1),by rw [w];exact q,by rw [O];exact C,by rw [x];exact D,rest⟩
   .exact .inr ⟨n,A,B,by rw [List.getElem?_set_ne (λh=>e h.symm)];exact o,by rw [List.getElem?_set_ne (λh=>e h.symm)];exact p,q,C,D,rest⟩
 .obtain⟨n,Y⟩:=List.mem_iff_getElem?.1 l;rcases dg f Y with ⟨_,rfl⟩|⟨L,z⟩
  .have:=h.ct i R K g (gu f) (by rw [<-E];exact k) (by rw [W,<-x,<-F];exact G);omega
  .have:=h.ct i R B g (gu z) k G;omega
theorem PW.K9 (h:PW w F P p s S c ss ts) (b:ss[J.i]? =some I) (d:ts[j]? =some J) (nK:w'.heap[J.t]? =some (.cells (zK I.q J.n T') 98 (0,0))) (nc:Ch w' J.n T'.puts) (oZ:∀x∈T'.puts,x.1<I.G.y.blocks) (e:aa (λg=>g=J.t\/g=J.n) w w'):PW w' F P p s S c ss (ts.set j {J with T:=T'}):=by
 have:=h.on b d rfl rfl (λg a=> .inl a) ((h.EF b).aaL (h.K6 d b) e) nK nc oZ (e.mono (λg a=>by rcases a with a|a;exact .inr (.inr (.inr (.inr (.inl a))));exact .inr (.inr (.inr (.inr (.inr a))))));rwa [mD b] at this
end
end
section
theorem fV {f:α->Value} {l:List α} {a b:α} (c:l[i]? =some a) (h:f b=f a):(l.set i b).map f=l.map f:=by
 rw [List.map_set];apply List.ext_getElem?;intro n;by_cases e:n=i
 .subst e;rw [List.getElem?_set_self (by simpa using ((mG.1 c).1)),Bd,c,h];rfl
 .rw [List.getElem?_set_ne (λh=>e h.symm)]
theorem RW.K9 {w w':World} {F X X':Nat->Prop} {r s:Nat} {S:DS} {rs:List RI} {us:List RJ} {K K':RJ} (h:RW w F X r s S rs us) (l:rs[K.i]? =some R) (o:us[j]? =some K) (E:K'.u=K.u) (t:K'.i=K.i) (z:∀g,X g->X' g) (m:∀g,X' g->more X w w' g) (nK:nT w' X' R.k K'.u R.G K'.T K'.tv K'.us) (n:K'.tv.ownBlock=K.tv.ownBlock\/∀g,K'.tv.ownBlock=some g->w.heap.size<=g) (v:aa (λg=>g=K.u\/K.tv.ownBlock=some g) w w') (bm:∀g,X' g->g<w'.heap.size):RW w' F X' r s S rs (us.set j K'):=by
 have f:=h.jI l;have d:=h.oV o l;have BQ:∀g,X' g->¬F g:=λg b a=>by
  rcases m g b with y|y
  .exact h.fD g y a
  .have:=h.e.lt g a;omega
 have bt:iz w' F X' r s S R.k R.kl R.G R.pv R.ps R.hm R.nv:=by
  refine f.other v z BQ bm (λa=>?_) (λa=>?_) (λg e a=>?_) (λg c H b A a=>?_) (.inl rfl)
  .rcases a with a|a
   .exact cU f.st d.tx (by decide) a
   .exact d.pl.ne a f.st (by decide) rfl
  .rcases a with a|a
   .exact cU f.lp d.tx (by decide) a
   .exact d.pl.ne a f.lp (by decide) rfl
  .rcases a with a|a
   .exact f.pl.ne e d.tx (by decide) a
   .exact h.r3 R (gu l) K (gu o) g e a
  .have DA:=A;obtain⟨cur,C,_⟩:=DA;rcases a with a|a
   .exact A.ne d.tx (by decide) a
   .exact d.pl.ne a C (by decide) rfl
 have D:=h.e.au v (λg b a=>by
  rcases a with a|a
  .exact h.fD g (a▸d.xt) b
  .exact h.fD g (d.pl.row g a) b)
 have:=h.on (I':=R) (J':=K') l o rfl rfl rfl rfl E t D z m bt nK (.inl rfl) n (λg x p=>by
  rcases n with q|q
  .rw [q] at p;exact h.r3 R (gu l) K (gu o) g x p
  .have:=q g p;have:=f.pl.rlt g x;omega) (v.mono (λg b=>by rcases b with b|b;exact .inr (.inr (.inr (.inl b)));exact .inr (.inr (.inr (.inr (.inr b)))))) (.inl rfl)
 rwa [mD l] at this
section
variable {w w':World} {q:Nat} {F P F2 X O A:Nat->Prop} {p r s c N:Nat} {S:DS} {v1 v2 v3 v4:Value} {ss:List PI} {ts:List PT} {rs:List RI} {us:List RJ}
end
end
section
section
variable {s N M i j:Nat} {S S':DS} {ss:List PI} {ts:List PT} {rs:List RI} {us:List RJ} {I I':PI} {R R':RI} {J J':PT} {K K':RJ}
theorem Lk.upd (h:Lk S s N ss ts rs us) (Q:ss[i]? =some I) (r:rs[i]? =some R) (f:ts[j]? =some J) (U:us[j]? =some K) (Pw:J.i=i) (e1:J'.i=J.i) (e2:K'.i=K.i) (e3:K'.u=K.u) (e4:K'.T=J'.T) (e5:R'.G=I'.G) (e6:R'.nv=R.nv)
    (mO:(J'.T.ended=J.T.ended/\I'.G.busy=I.G.busy)\/(J.T.ended=false/\J'.T.ended=true/\I'.G.busy=false)) (hM:N<=M) (W:V.Inv S' s ((ss.set i I').map (λI=>I.G.L)) M) (nY:R'.ps.length<=M) (VD:J'.T.ended=false->R'.ps.length+K'.us.length<=M) (Dt:R'.ps=R.ps\/J.T.ended=false) (EG:S'.refused=S.refused):
  Lk S' s M (ss.set i I') (ts.set j J') (rs.set i R') (us.set j K'):=by
 have uG:=(mG.1 Q).1;have rE:=(mG.1 r).1;obtain⟨g1,g2⟩:=h.tg j J K f U;have O:∀(n:Nat) (A:PT),(ts.set j J')[n]? =some A->n≠j->ts[n]? =some A:=λn A d dG=>by
  rcases dg f d with ⟨e,_⟩|⟨_,d⟩
  .exact absurd e dG
  .exact d
 refine⟨by rw [List.length_set,List.length_set];exact h.sl,λn A B d c=>?_,by rw [List.length_set,List.length_set];exact h.tl,λn A B d c=>?_,W,λn A B d c=>?_,λB c=>?_,λn B C c k a Z=>?_,EG.trans h.rf⟩
 .rcases dg Q d with ⟨E,rfl⟩|⟨z,d⟩<;> rcases dg r c with ⟨P,rfl⟩|⟨v,c⟩
  .exact e5
  .exact absurd E v
  .exact absurd P z
  .exact h.sg n A B d c
 .rcases dg f d with ⟨E,rfl⟩|⟨z,d⟩<;> rcases dg U c with ⟨P,rfl⟩|⟨v,c⟩
  .exact⟨by rw [e2,e1,g1],e4⟩
  .exact absurd E v
  .exact absurd P z
  .exact h.tg n A B d c
 .rcases dg Q d with ⟨E,rfl⟩|⟨z,hA'⟩<;> rcases dg r c with ⟨P,rfl⟩|⟨v,x⟩
  .subst E;rcases h.now n I R Q r with ⟨p,q,b⟩|⟨m,C,D,p,q,b,F,H,t⟩
   .have l:=b j J f Pw;rcases mO with ⟨g,w⟩|⟨g,_,_⟩
    .refine .inl ⟨e6.trans p,w.trans q,λm C k a=>?_⟩;rcases dg f k with ⟨_,rfl⟩|⟨_,k⟩
     .rw [g];exact l
     .exact b m C k a
    .rw [l] at g;cases g
   .by_cases e:m=j
    .subst e;obtain rfl:C=J:=Option.some.inj (p.symm.trans f);obtain rfl:D=K:=Option.some.inj (q.symm.trans U);refine .inr ⟨m,J',K',List.getElem?_set_self ((mG.1 f).1),List.getElem?_set_self ((mG.1 U).1),by rw [e1];exact b,by rw [e6,e3];exact F,?_,λy A' La a dG=>t y A' (O y A' La dG) a dG⟩;rcases mO with ⟨g,w⟩|⟨_,w,b3⟩
     .rw [g,w];exact H
     .rw [w,b3];rfl
    .have l:=t j J f Pw (λh=>e h.symm);rcases mO with ⟨g,w⟩|⟨g,_,_⟩
     .refine .inr ⟨m,C,D,by rw [List.getElem?_set_ne (λh=>e h.symm)];exact p,by rw [List.getElem?_set_ne (λh=>e h.symm)];exact q,b,e6.trans F,by rw [w];exact H,λy A' La a dG=>?_⟩;rcases dg f La with ⟨_,rfl⟩|⟨_,La⟩
      .rw [g];exact l
      .exact t y A' La a dG
     .rw [l] at g;cases g
  .exact absurd E v
  .exact absurd P z
  .have Y:∀(m:Nat) (C:PT),(ts.set j J')[m]? =some C->C.i=n->ts[m]? =some C:=λm C k a=>by
    rcases dg f k with ⟨_,rfl⟩|⟨_,k⟩
    .rw [e1,Pw] at a;exact absurd a.symm z
    .exact k
   rcases h.now n A B hA' x with ⟨p,q,b⟩|⟨m,C,D,p,q,b,F,H,t⟩
   .exact .inl ⟨p,q,λm C k a=>b m C (Y m C k a) a⟩
   .have dG:m≠j:=λe=>by
     subst e;obtain rfl:C=J:=Option.some.inj (p.symm.trans f);rw [Pw] at b;exact z b.symm
    exact .inr ⟨m,C,D,by rw [List.getElem?_set_ne (λh=>dG h.symm)];exact p,by rw [List.getElem?_set_ne (λh=>dG h.symm)];exact q,b,F,H,λy A' La a X=>t y A' (Y y A' La a) a X⟩
 .obtain⟨n,X⟩:=List.mem_iff_getElem?.1 c;rcases dg r X with ⟨_,rfl⟩|⟨_,X⟩
  .exact nY
  .have:=h.cs B (gu X);omega
 .obtain⟨m,hm⟩:=List.mem_iff_getElem?.1 k;rcases dg U hm with ⟨ek,rfl⟩|⟨nk,hm'⟩
  .rcases dg r c with ⟨_,rfl⟩|⟨v,_⟩
   .exact VD (by rw [<-e4];exact Z)
   .rw [e2,g1,Pw] at a;exact absurd a.symm v
  .rcases dg r c with ⟨rfl,rfl⟩|⟨v,x⟩
   .rcases Dt with Dt|Dt
    .have:=h.ct n R C r (gu hm') a Z;rw [Dt];omega
    .exfalso;have AY:m<ts.length:=(by rw [<-h.tl];exact(mG.1 hm').1);have hD:=List.getElem?_eq_getElem AY;obtain⟨f1,f2⟩:=h.tg m _ C hD hm';have hDe:ts[m].T.ended=false:=(by rw [<-f2];exact Z);have hDi:ts[m].i=n:=(by rw [<-f1];exact a);rcases h.now n I R Q r with ⟨_,_,b⟩|⟨o,A,B,p,q,b,F,H,t⟩
     .have:=b j J f Pw;rw [Dt] at this;cases this
     .by_cases eo:o=j
      .subst eo;have:=t m _ hD hDi nk;rw [hDe] at this;cases this
      .have:=t j J f Pw (λh=>eo h.symm);rw [Dt] at this;cases this
   .have:=h.ct n B C x (gu hm') a Z;omega
end
end
section
theorem RW.reG {w:World} {F X:Nat->Prop} {r s:Nat} {S:DS} {rs:List RI} {us:List RJ} {G':SG} (h:RW w F X r s S rs us) (m:rs[i]? =some R) (p:G'.y=R.G.y) (t:G'.L=R.G.L) (H:G'.ov=R.G.ov):RW w F X r s S (rs.set i {R with G:=G'}) us:=by
 have d:=h.jI m;have o:∀{n:Nat} {A:RI},(rs.set i {R with G:=G'})[n]? =some A->∃q,rs[n]? =some q/\q.pv=A.pv:=λ{n A} j=>by
  rcases dg m j with ⟨rfl,rfl⟩|⟨_,j⟩
  .exact⟨R,m,rfl⟩
  .exact⟨A,j,rfl⟩
 refine⟨h.e,h.fD,h.lt,λA D=>?_,λK O=>?_,by rw [mU (f:=λx:RI=>x.k) (b:={R with G:=G'}) m rfl];exact h.nk,by rw [mU (f:=λx:RI=>x.kl) (b:={R with G:=G'}) m rfl];exact h.nl,h.nu,λa b A B P Q oz g z C=>?_,h.r2,λA D B N g z C=>?_⟩
 .obtain⟨n,j⟩:=List.mem_iff_getElem?.1 D;rcases dg m j with ⟨_,rfl⟩|⟨_,j⟩
  .exact⟨by show kX _ _ _ _ G'.y _ _ _;rw [p];exact d.st,by show cH _ _ _ G'.L;rw [t];exact d.lp,d.pl,d.xk,d.xl,d.fD,d.lt,by show G'.L.Ok s;rw [t];exact d.lk,by show G'.L.begun=true;rw [t];exact d.bg,by show G'.y.home+G'.y.blocks<=s;rw [p];exact d.hs,by show G'.L.f+2+G'.L.n<=G'.y.home;rw [t,p];exact d.lh,by show G'.ov=_;rw [H];exact d.ov,d.hm,by show∀x∈R.ps,x.1<G'.y.blocks;rw [p];exact d.kb,by show G'.L.dead S=false->∀b,b<G'.y.blocks->CM.get G'.ov b=none->∀c,fnd R.ps b=some c->S.now (G'.y.home+b)=c;rw [t,p,H];exact d.un⟩
  .exact h.jI j
 .obtain⟨M,E,l⟩:=h.tx K O;by_cases e:K.i=i
  .rw [e,m] at E;cases E;exact⟨{R with G:=G'},by rw [e];exact List.getElem?_set_self ((mG.1 m).1),⟨l.tx,l.xt,l.pl,l.nd,l.pu,by show∀x∈K.us,x.1<G'.y.blocks;rw [p];exact l.kb,l.D6⟩⟩
  .exact⟨M,by rw [List.getElem?_set_ne (λh=>e h.symm)];exact E,l⟩
 .obtain⟨q,u,v⟩:=o P;obtain⟨T,I,J⟩:=o Q;exact h.r1 _ _ _ _ u I oz g (v▸z) (J▸C)
 .obtain⟨n,j⟩:=List.mem_iff_getElem?.1 D;obtain⟨q,u,v⟩:=o j;exact h.r3 q (gu u) B N g (v▸z) C
section
variable {w w':World} {q:Nat} {F P F2 X O A:Nat->Prop} {p r s c N:Nat} {S:DS} {v1 v2 v3 v4:Value} {ss:List PI} {ts:List PT} {rs:List RI} {us:List RJ}
end
end
section
section
variable {w w':World} {q:Nat} {F P F2 X O A:Nat->Prop} {p r s c N:Nat} {S:DS} {v1 v2 v3 v4:Value} {ss:List PI} {ts:List PT} {rs:List RI} {us:List RJ}
theorem AC (h:W5 w q F P F2 X O p r s S S c v1 v2 v3 v4 ss ts rs us) (Q:Lk S s N ss ts rs us) (_hA:∀g,(F g\/P g\/F2 g\/X g\/O g)->A g) (mc:∀g,A g->g<w.heap.size) (h1:ss.length<=N) (Z:ts.length<=N) (_hc:c<=5000*N) (hN:N<=3999999990000) (b f n:Int) (t:Option Addr) (v u:Nat) (H:Option Addr) (K J:Nat) (x y z:Int) (AD:b<=9223372036854775807):
  Calls prog 31 #[pV q, .agg (iO 12 b f n t v u H K J x y z)] w λe w'=>e= .returned (.bool true)/\bW w w':=by
 obtain⟨W,d⟩:=bQ (w.alloc (.cells (iO 12 b f n t v u H K J x y z) 41));have EB:bW w W:=by rw [d];exact(bi w.heap.size w).alloc (bP _) _
 have BP:W.heap[w.heap.size]? =some (.cells (iO 12 b f n t v u H K J x y z) 41 (0,0)):=by rw [d];exact heap_alloc_new _ _
 have Hv:W.heap.size=w.heap.size+1:=by rw [d,World.size_alloc]
 have tW:¬A w.heap.size:=λhx=>by have:=mc _ hx;omega
 obtain⟨a3,c3,E⟩:=AB h.o1;have To:=h.later EB;have d0:W.cell? (aD w.heap.size 0)=some (iV 12):=aL BP;have d1:W.cell? (aD w.heap.size 1)=some (iV b):=bD BP;have l:=To.c2;have sd:=λk=>Az (W.drewN k) ss.length b AD (by omega);obtain⟨L,o,CQ,Mp⟩:=cM To Q EB BP;rw [E] at l;clear h Q To EB BP;go_in;go_wp2_with fail;rw [<-d];clear d;go_quiet (first|(go_at_call 73;refine Calls.quiet_of_same (sd _)));rename_i nq _;have m:bW W (W.drewN nq):=below_drewN (bi _ _) nq;have fH:=(L.later m);have ux:=(CQ.trans (m.mono (by omega)));have X3:(W.drewN nq).heap.size=w.heap.size+1:=Hv;have Uu:=((m.block w.heap.size (by omega)).trans Mp);clear L CQ Mp sd m d0 d1 l Hv;generalize W.drewN nq=V at*;have dV0:V.cell? (aD w.heap.size 0)=some (iV 12):=aL Uu;have dV2:V.cell? (aD w.heap.size 2)=some (iV f):=bH Uu;have l:=fH.c2;have e5:=fH.c3;by_cases T:ss.length=0
 .have fo:bk ss.length b= -1:=by unfold bk;rw [aE T]
  rw [fo];go_wp2;go_ret;exact⟨rfl,ux⟩
 .obtain⟨j,M,Yd⟩:=Tn (show 0<ss.length by omega) b;rw [Yd];have YQ:¬(j:Int)<0:=by omega
  have Yt:(j:Int)<(ss.length:Int):=by omega
  obtain⟨I,C⟩:∃I,ss[j]? =some I:=⟨ss[j],List.getElem?_eq_getElem M⟩;obtain⟨R,D⟩:∃R,rs[j]? =some R:=⟨rs[j]'(by rw [o.sl];exact M),List.getElem?_eq_getElem _⟩;obtain⟨g3,cp3,Tp,t3⟩:=vC (i:=j) fH.o1 (by rw [Bd,C];rfl);obtain⟨g4,cp4,Tq,t4⟩:=vC (i:=j) fH.o2 (by rw [Bd,D];rfl);rw [Tp] at l;rw [Tq,o.sl] at e5;clear Yd T;have Om:=(λ(a:World) (hb:bW V a)=>((fH.later hb).rw.jI D).st);go_wp2_with fail;refine(Kz (fH.pw.EF C).st).mono ?_;rintro e a ⟨rfl,aW⟩;have bo:=Om a aW;rw [(o.sg j I R C D)] at bo;have lj:=aI a (.cells #[.int .i64 (I.G.y.log:Int), .int .i64 (I.G.y.home:Int), .int .i64 (I.G.y.blocks:Int), .int .i64 (I.G.y.nodes:Int), .int .i64 (I.G.y.data:Int)] 86);have LV:=heap_alloc_new a (.cells #[.int .i64 (I.G.y.log:Int), .int .i64 (I.G.y.home:Int), .int .i64 (I.G.y.blocks:Int), .int .i64 (I.G.y.nodes:Int), .int .i64 (I.G.y.data:Int)] 86);have fB:=bo.later lj;have dE:=(aW.trans (lj.mono aW.size));clear aW bo;go_wp2_with fail;generalize a.alloc (.cells #[.int .i64 (I.G.y.log:Int), .int .i64 (I.G.y.home:Int), .int .i64 (I.G.y.blocks:Int), .int .i64 (I.G.y.nodes:Int), .int .i64 (I.G.y.data:Int)] 86)=Y at*;have U:((λw':World=>w'.cell? (aD a.heap.size 0)=some (iV (I.G.y.log:Int))/\w'.cell? (aD a.heap.size 1)=some (iV (I.G.y.home:Int))/\w'.cell? (aD a.heap.size 2)=some (iV (I.G.y.blocks:Int))/\w'.cell? (aD a.heap.size 3)=some (iV (I.G.y.nodes:Int))/\w'.cell? (aD a.heap.size 4)=some (iV (I.G.y.data:Int))/\w'.cell? (aD R.k 2)=some (iV (I.G.y.log:Int))/\w'.cell? (aD R.k 3)=some (iV (I.G.y.home:Int))/\w'.cell? (aD R.k 4)=some (iV (I.G.y.blocks:Int))/\w'.cell? (aD R.k 5)=some (iV (I.G.y.nodes:Int))/\w'.cell? (aD R.k 6)=some (iV (I.G.y.data:Int))) Y):=⟨aL LV,bD LV,bH LV,fI LV,gz LV,fB.c2,fB.c3,fB.c4,fB.c5,fB.c6⟩;clear fB lj LV;go_region_held3 (λw'=>w'.cell? (aD a.heap.size 0)=some (iV (I.G.y.log:Int))/\w'.cell? (aD a.heap.size 1)=some (iV (I.G.y.home:Int))/\w'.cell? (aD a.heap.size 2)=some (iV (I.G.y.blocks:Int))/\w'.cell? (aD a.heap.size 3)=some (iV (I.G.y.nodes:Int))/\w'.cell? (aD a.heap.size 4)=some (iV (I.G.y.data:Int))/\w'.cell? (aD R.k 2)=some (iV (I.G.y.log:Int))/\w'.cell? (aD R.k 3)=some (iV (I.G.y.home:Int))/\w'.cell? (aD R.k 4)=some (iV (I.G.y.blocks:Int))/\w'.cell? (aD R.k 5)=some (iV (I.G.y.nodes:Int))/\w'.cell? (aD R.k 6)=some (iV (I.G.y.data:Int))) (exact U) (fail);go_wp2;go_ret;exact⟨by simp,ux.trans (dE.drew.mono ux.size)⟩
end
end
section
theorem OS {S:DS} {s:Nat} (dh:S.Ok s) (L M:LG) (h:M.dead (L.sync S s).2=false):M.dead S=false/\∀j,j<s->(L.sync S s).2.now j=S.now j:=by
 unfold LG.sync at*;split at h
 .rename_i q;rw [aE q];exact⟨h,λ_ _=>rfl⟩
 .rename_i q;rw [aA q];refine⟨?_,λj b=>eU dh b⟩;have a:=V.jE h;rw [fO] at a;unfold LG.dead;simp [(V.jE (V.j2 (Decidable.of_not_not q)).1).2,a.1]
theorem Lk.Tr {S S':DS} {s N:Nat} {b:List PI} {d:List PT} {rs:List RI} {us:List RJ} (h:Lk S s N b d rs us) (c:N<=M) (a:V.Inv S' s (b.map (λI=>I.G.L)) M) (EG:S'.refused=S.refused):Lk S' s M b d rs us:=⟨h.sl,h.sg,h.tl,h.tg,a,h.now,λR k=>jQ (h.cs R k) c,λi R K e f g j=>jQ (h.ct i R K e f g j) c,EG.trans h.rf⟩
theorem Lk.synced {S:DS} {s N:Nat} {a:List PI} {c:List PT} {rs:List RI} {us:List RJ} (h:Lk S s N a c rs us) (d:a[j]? =some I):Lk (I.G.L.sync S s).2 s (N+2) a c rs us:=by
 have b:(a.map (λI=>I.G.L))[j]? =some I.G.L:=by rw [Bd,d];rfl
 have:=h.inv.sync b;rw [mD b] at this;exact h.Tr (by omega) (this.more (by omega)) (EE _ _ _)
section
variable {w w':World} {q:Nat} {F P F2 X O A:Nat->Prop} {p r s c N:Nat} {S:DS} {v1 v2 v3 v4:Value} {ss:List PI} {ts:List PT} {rs:List RI} {us:List RJ}
end
end
section
theorem AE {S:DS} {s:Nat} (dh:S.Ok s) (d:∀q∈G.ov,G.y.home+q.1<s/\q.2.length=512):(G.check S s).2.1.life=S.life:=by
 obtain⟨c,a,_⟩:=qd (L:=G.L) dh;obtain⟨_,b,_,_,_⟩:=ev (h0:=G.y.home) (ms:=G.ov) c d;have On:=CX G.L (sbring (G.L.sync S s).2 s G.y.home G.ov).2 s;unfold SG.check;split
 .exact a
 .split
  .exact b.trans a
  .split
   .exact On.1.trans (b.trans a)
   .exact On.1.trans (b.trans a)
theorem AF (G:SG) (S:DS) (s:Nat):(G.check S s).2.2.busy=G.busy:=by
 unfold SG.check;split
 .rfl
 .split
  .rfl
  .split <;> rfl
theorem Is {S:DS} {s t i:Nat} {c:List LG} (h:V.Inv S s c t) (j:c[i]? =some G.L) (f:∀q∈G.ov,G.y.home+q.1<s/\q.2.length=512):(G.check S s).2.1=S\/∀n M,c[n]? =some M->n≠i->M.dead (G.check S s).2.1=true:=by
 by_cases b:G.L.bd S=0
 .refine .inr (λn M a dG=>?_);obtain⟨hd,_⟩:=V.j2 b;obtain⟨g,_⟩:=V.jE hd;cases k:M.dead (G.check S s).2.1
  .have d:=(V.jE k).1;rw [AE h.ok f] at d;exact absurd (V.pP h.li j a (d.trans g.symm)) dG
  .rfl
 .refine .inl ?_;have e:G.L.sync S s=(G.L.bd S,S):=by unfold LG.sync;rw [aE b]
  unfold SG.check;rw [e,aE b]
section
variable {s N M i:Nat} {S S':DS} {ss:List PI} {ts:List PT} {rs:List RI} {us:List RJ} {I I':PI} {R R':RI}
theorem Lk.akE (h:Lk S s N ss ts rs us) (j:ss[i]? =some I) (c:rs[i]? =some R) (t:R'.G=I'.G) (u:R'.nv=R.nv) (v:I'.G.busy=I.G.busy) (o:R'.ps=R.ps) (f:N<=M) (e:V.Inv S' s ((ss.set i I').map (λI=>I.G.L)) M) (EG:S'.refused=S.refused):Lk S' s M (ss.set i I') ts (rs.set i R') us:=by
 refine⟨by rw [List.length_set,List.length_set];exact h.sl,λn A B b a=>?_,h.tl,h.tg,e,λn A B b a=>?_,λB a=>?_,λn B C a p r q=>?_,EG.trans h.rf⟩
 .rcases dg j b with ⟨d,rfl⟩|⟨l,b⟩<;> rcases dg c a with ⟨g,rfl⟩|⟨m,a⟩
  .exact t
  .exact absurd d m
  .exact absurd g l
  .exact h.sg n A B b a
 .rcases dg j b with ⟨d,rfl⟩|⟨l,b⟩<;> rcases dg c a with ⟨g,rfl⟩|⟨m,a⟩
  .rw [u,v,d];exact h.now i I R j c
  .exact absurd d m
  .exact absurd g l
  .exact h.now n A B b a
 .obtain⟨n,k⟩:=List.mem_iff_getElem?.1 a;rcases dg c k with ⟨_,rfl⟩|⟨_,k⟩
  .rw [o];exact jQ (h.cs R (gu c)) f
  .exact jQ (h.cs B (gu k)) f
 .rcases dg c a with ⟨d,rfl⟩|⟨_,a⟩
  .rw [o];exact jQ (h.ct i R C c p (r.trans d) q) f
  .exact jQ (h.ct n B C a p r q) f
end
theorem C6 {S:DS} (h:L.bd S=0):L.dead S=false/\L.begun=true:=V.j2 h
theorem Lb {S:DS} (h:L.dead S=false):L.life=S.life/\S.fuse≠0:=V.jE h
section
variable {w w':World} {q:Nat} {F P F2 X O A:Nat->Prop} {p r s c N:Nat} {S:DS} {v1 v2 v3 v4:Value} {ss:List PI} {ts:List PT} {rs:List RI} {us:List RJ}
end
end
section
theorem It {S:DS} {s:Nat} (a:L.Ok s):(L.append S s d).2.1.life=S.life:=by
 have c:=a.n1;obtain⟨b,_,_,_⟩:=mu (L:=L) (S:=S) (s:=s) (d:=d) (by omega) a.s (cY d.length);unfold LG.append;split
 .rfl
 .split <;> exact b
theorem Iu (G:SG) (S:DS) (s:Nat) (c:CM):(G.bF S s c).2.2.busy=G.busy:=by
 have a:(G.made S s (co c).length).2.2.busy=G.busy:=by
  unfold SG.made;split
  .rfl
  .exact AF G S s
 unfold SG.bF;split
 .rfl
 .split
  .exact a
  .split <;> exact a
section
variable {G:SG} {T:TG} {S:DS} {s t i:Nat} {ls:List LG} {c:CM}
theorem Iv (h:V.Inv S s ls t) (b:ls[i]? =some G.L) (g:G.L.begun=true) (a:∀q∈G.ov,G.y.home+q.1<s/\q.2.length=512/\Bytes q.2) (XS:G.ov.length<=2048) (BE:G.L.f+2+G.L.n<=G.y.home):(G.bF S s c).2.1.life=S.life:=by
 have d:V.Inv (G.made S s (co c).length).2.1 s (ls.set i (G.made S s (co c).length).2.2.L) t:=by
  unfold SG.made;split
  .exact h.same b
  .exact h.check b g a XS BE
 have AY:(G.made S s (co c).length).2.1.life=S.life:=by
  unfold SG.made;split
  .rfl
  .exact AE h.ok (λq e=>⟨(a q e).1,(a q e).2.1⟩)
 have dh:=(d.at (List.getElem?_set_self ((mG.1 b).1))).1;unfold SG.bF;split
 .rfl
 .split
  .exact AY
  .split <;> exact(It dh).trans AY
theorem BR (h:V.Inv S s ls t) (d:ls[i]? =some G.L) (l:G.L.begun=true) (j:∀q∈G.ov,G.y.home+q.1<s/\q.2.length=512/\Bytes q.2) (XS:G.ov.length<=2048) (BE:G.L.f+2+G.L.n<=G.y.home) (o:∀q∈T.puts,Bytes q.2) (k:T.state G S=0):
    (T.bF G S s).2.2.1.y=G.y/\V.Inv (T.bF G S s).2.1 s (ls.set i (T.bF G S s).2.2.1.L) t/\((T.bF G S s).2.1=S\/∀n M,ls[n]? =some M->n≠i->M.dead (T.bF G S s).2.1=true)/\T.ended=false/\
     (((T.bF G S s).2.2.2=T/\(T.bF G S s).2.2.1.busy=G.busy)\/((T.bF G S s).2.2.2=T.close/\(T.bF G S s).2.2.1.busy=false)):=by
 have hd:=zY k;have a:T.ended=false:=by
  unfold TG.state TG.bX at k;cases a:T.ended
  .rfl
  .rw [hd,a] at k;simp at k
 obtain⟨m,_⟩:=V.jE hd;have b:=h.Wi (c:=T.news G S) d l j XS BE (λq p=>o q (GN p));have St:∀n M,ls[n]? =some M->n≠i->M.dead (G.bF S s (T.news G S)).2.1=true:=λn M e dG=>by
  cases r:M.dead (G.bF S s (T.news G S)).2.1
  .have g:=(V.jE r).1;rw [(Iv (c:=T.news G S) h d l j XS BE)] at g;exact absurd (V.pP h.li d e (g.trans m.symm)) dG
  .rfl
 unfold TG.bF;rw [aA (λh=>h k)];split
 .exact⟨rfl,h.same d, .inl rfl,a, .inr ⟨rfl,rfl⟩⟩
 .split
  .exact⟨zW _ _ _ _,b, .inr St,a, .inl ⟨rfl,Iu _ _ _ _⟩⟩
  .exact⟨zW _ _ _ _,b, .inr St,a, .inr ⟨rfl,rfl⟩⟩
end
section
variable {w w':World} {F X:Nat->Prop} {p r s cR q l m t n k kl hm:Nat} {S:DS} {G:SG} {T:TG} {pv nv tv:Value} {ps us:List (Nat×List Int)}
theorem OT (h:ig w F p s cR q l m S G) (b:mx w F q l m t n G T) (k:T.state G S≠0):
  Calls prog 88 #[pQ t] w λe w'=>e= .returned (iV (T.state G S))/\bW w w':=by
 have a:=nI h b;generalize T.state G S=E at*;have d:(E != 0)=true:=by rw [fT];exact k
 clear k h b;go_in;go_wp2_with fail;refine bE a λw1 aq=>?_;have c:=yh aq;clear a aq;go_wp2;go_ret;exact⟨rfl,c.o⟩
theorem Lc (hd:aB w F r s S) (h:iz w F X r s S k kl G pv ps hm nv) (b:nT w X k t G T tv us) (kk:T.state G S≠0):
  Calls prog 89 #[pQ t] w λe w'=>e= .returned (iV (T.state G S))/\bW w w':=by
 have a:=j5 hd h b.tx;generalize T.state G S=E at*;have d:(E != 0)=true:=by rw [fT];exact kk
 clear kk h b hd;go_in;go_wp2_with fail;refine bE a λw1 aq=>?_;have c:=yh aq;clear a aq;go_wp2;go_ret;exact⟨rfl,c.o⟩
end
end
section
theorem akF {W:World} {t:TypeId} (a:(prog.info? e).map (λi=>(i.zero,i.size,i.bytes))=some (some (.pointer none),1,8)) (f:prog.underlying t=some (.slice e)) (aY:W.ownsRow 0 e 1 v k vs) (x:Value) (j:x.oneCell'=true) (m:(k+1)*8<=140737488355328):
  ∃g cap w',(Builtin.append_ #[t,t] t #[v, .slice (some (aD W.heap.size 0)) 1 1]).run prog (W.alloc (.cells #[x] e))= .ok (.slice (some (aD g 0)) (k+1) cap) w'/\w'.ownsRow 0 e 1 (.slice (some (aD g 0)) (k+1) cap) (k+1) (vs ++ [x])/\(W.alloc (.cells #[x] e)).grownBy w' v.ownBlock/\(v.ownBlock=some g\/g=W.heap.size+1)/\g<w'.heap.size:=by
 obtain⟨l,d,gv,dr,ec⟩:=info_parts a;exact run_append_lies (P:=prog) (W.alloc (.cells #[x] e)) t t 0 e l (.pointer none) 1 8 f d gv dr ec rfl (by decide) v k vs (em aY (λg c=>by
   obtain⟨cur,b⟩:=bJ aY c;exact Below.heap_alloc _ _ _ (aw b))) (aD W.heap.size 0) 1 1 [x] rfl (World.news_of_block (cs:= #[x]) (t:=e) (fr:=(0,0)) (heap_alloc_new W _)) (by simpa using j) (by omega) (by unfold maxLen;omega) (by omega) (by simp) _ (by simp)
section
variable {w w2:World} {q:Nat} {F P F2 X O P' X':Nat->Prop} {p r s c:Nat} {S S2:DS} {v1 v2 v3 v4 u1 u2 u3 u4:Value} {ss Tm:List PI} {ts WG:List PT} {rs Ba:List RI} {us KB:List RJ}
theorem oP {b c f:TypeId} {u:Value} {m x:Nat} {xs o:List Value} {cs:Array Value} {z:Nat×Nat} (g:w.ownsRow 0 b 1 u n xs) (i:w.ownsRow 0 c 1 v m o) (j:w.heap[q]? =some (.cells cs f z)) (k:b≠c) (l:b≠f) (e:u.ownBlock=some x):¬(v.ownBlock=some x\/x=q):=λa=>by
 obtain⟨cur,d⟩:=bJ g e;rcases a with a|a
 .obtain⟨acI,B7⟩:=bJ i a;exact cU d B7 k rfl
 .exact cU d j l a
theorem W5.grow (h:W5 w q F P F2 X O p r s S S2 c v1 v2 v3 v4 ss ts rs us) {t:TypeId} (j:Nat) (A:(Tryz.prog.info? e).map (λi=>(i.zero,i.size,i.bytes))=some (some (.pointer none),1,8)) (G:Tryz.prog.underlying t=some (.slice e)) (y:w.ownsRow 0 e 1 v k vs) (z:∀g,v.ownBlock=some g->O g) (dG:e≠35) (l:Nat) (f:(k+1)*8<=140737488355328):
  ∃g a w1 w2,(Builtin.append_ #[t,t] t #[v, .slice (some (aD w.heap.size 0)) 1 1]).run Tryz.prog (w.alloc (.cells #[pV l] e))= .ok (.slice (some (aD g 0)) (k+1) a) w1/\w1.heap[q]? =some (.cells (Ut p r v1 v2 v3 v4) 35 (0,0))/\w2=w1.setCell ⟨q,j,none⟩ (.slice (some ⟨g,0,none⟩) (k+1) a)/\w2.heap[q]? =some (.cells ((Ut p r v1 v2 v3 v4).setIfInBounds j (.slice (some ⟨g,0,none⟩) (k+1) a)) 35 (0,0))/\w2.ownsRow 0 e 1 (.slice (some (aD g 0)) (k+1) a) (k+1) (vs ++ [pV l])/\(∀x,(Value.slice (some (aD g 0)) (k+1) a).ownBlock=some x->more O w w2 x)/\aa (λg=>v.ownBlock=some g\/g=q) w w2/\aa O w w2:=by
 obtain⟨g,a,w1,bC,o,d,ic,UF⟩:=akF A G y (pV l) rfl f;have lj:=aI w (.cells #[pV l] e);have ef:(w.alloc (.cells #[pV l] e)).heap.size=w.heap.size+1:=by simp
 have dr:w.heap.size+1<=w1.heap.size:=by have:=d.size;omega
 have eH:aa (λk=>v.ownBlock=some k) w w1:=by
  refine⟨d.os.trans lj.os,d.tape.trans lj.tape,d.output.trans lj.output,by omega,λk f E=>?_⟩;exact(d.block k (by omega) (λe=>E e.symm)).trans (lj.block k f)
 have m:∀k,v.ownBlock=some k->k≠q:=λk e=>by
  obtain⟨cur,C⟩:=bJ y e;exact cU C h.box dG
 have iA:=(eH.block q (h.oW q h.oq) (λe=>m q e rfl)).trans h.box;obtain⟨w2,dw⟩:=bQ (w1.setCell ⟨q,j,none⟩ (.slice (some ⟨g,0,none⟩) (k+1) a));have eF:aa (λk=>k=q) w1 w2:=by rw [dw];exact aJ (F:=λk=>k=q) w1 rfl j _
 have aX:aa (λk=>v.ownBlock=some k\/k=q) w w2:=(eH.mono (λ_ h=> .inl h)).trans eF (λj D=> .inl (.inr D));have ec:w2.heap.size=w1.heap.size:=by rw [dw];simp
 have n:g≠q:=by
  rcases ic with ic|ic
  .exact m g ic
  .have:=h.oW q h.oq;omega
 refine⟨g,a,w1,w2,bC,iA,dw,by rw [dw];exact heap_setCell_same _ _ j _ _ _ iA,em o (λx u=>?_),λx u=>?_,aX,aX.mono (λk f=>f.elim (z k) (λe=>e▸h.oq))⟩
 .have b:x=g:=by simpa [Value.ownBlock] using u.symm
  subst b;exact eF.block x UF n
 .have b:x=g:=by simpa [Value.ownBlock] using u.symm
  subst b;exact ic.elim (λe=> .inl (z x e)) (λe=> .inr ⟨by omega,by omega⟩)
theorem W5.mkP (h:W5 w q F P F2 X O p r s S S2 c v1 v2 v3 v4 ss ts rs us) (i:PW w F P' p s S c Tm WG) (f:∀g,P' g->¬(F2 g\/X g\/O g)) (EH:aa O w w2) (j:w2.heap[q]? =some (.cells (Ut p r u1 v2 u3 v4) 35 (0,0))) (l:w2.ownsRow 0 53 1 u1 Tm.length (Tm.map (λI=>pV I.q))) (v:∀g,u1.ownBlock=some g->more O w w2 g) (m:w2.ownsRow 0 110 1 v2 rs.length (rs.map (λI=>pV I.k))) (n:w2.ownsRow 0 56 1 u3 WG.length (WG.map (λJ=>pV J.t))) (x:∀g,u3.ownBlock=some g->more O w w2 g) (o:w2.ownsRow 0 122 1 v4 us.length (us.map (λJ=>pV J.u))):W5 w2 q F P' F2 X (more O w w2) p r s S S2 c u1 v2 u3 v4 Tm WG rs us:=by
 refine⟨j, .inl h.oq,λk a=>a.elim (λa=>iP (h.oW k a) EH.size) (λh=>h.2),i.au EH (λk a b=>h.oa k b (.inl a)) (λk a b=>f k a (.inr (.inr b))),h.rw.au EH (λk a b=>h.od k b (.inl a)) (λk a b=>h.od k b (.inr a)),l,v,m,λg e=> .inl (h.q2 g e),n,x,o,λg e=> .inl (h.q4 g e),λk a b=>?_,λk a b=>?_,λk a b=>?_⟩
 .rcases a with a|a
  .exact h.ad k (.inl a) b
  .exact f k a (b.elim .inl (λb=> .inr (.inl b)))
 .rcases a with a|a <;> rcases b with b|b
  .exact h.oa k a (.inl b)
  .exact f k b (.inr (.inr a))
  .have:=h.pw.d.lt k b;omega
  .have:=i.lt k b;omega
 .rcases a with a|a
  .exact h.od k a b
  .rcases b with b|b
   .have:=h.rw.e.lt k b;omega
   .have:=h.rw.lt k b;omega
theorem W5.mkD (h:W5 w q F P F2 X O p r s S S2 c v1 v2 v3 v4 ss ts rs us) (i:RW w F2 X' r s S2 Ba KB) (f:∀g,X' g->¬(F g\/P g\/O g)) (EH:aa O w w2) (j:w2.heap[q]? =some (.cells (Ut p r v1 u2 v3 u4) 35 (0,0))) (l:w2.ownsRow 0 53 1 v1 ss.length (ss.map (λI=>pV I.q))) (m:w2.ownsRow 0 110 1 u2 Ba.length (Ba.map (λI=>pV I.k))) (v:∀g,u2.ownBlock=some g->more O w w2 g) (n:w2.ownsRow 0 56 1 v3 ts.length (ts.map (λJ=>pV J.t))) (o:w2.ownsRow 0 122 1 u4 KB.length (KB.map (λJ=>pV J.u))) (x:∀g,u4.ownBlock=some g->more O w w2 g):W5 w2 q F P F2 X' (more O w w2) p r s S S2 c v1 u2 v3 u4 ss ts Ba KB:=by
 refine⟨j, .inl h.oq,λk b=>b.elim (λb=>iP (h.oW k b) EH.size) (λh=>h.2),h.pw.au EH (λk b a=>h.oa k a (.inl b)) (λk b a=>h.oa k a (.inr b)),i.au EH (λk b a=>h.od k a (.inl b)) (λk b a=>f k b (.inr (.inr a))),l,λg e=> .inl (h.q1 g e),m,v,n,λg e=> .inl (h.q3 g e),o,x,λk b a=>?_,λk b a=>?_,λk b a=>?_⟩
 .rcases a with a|a
  .exact h.ad k b (.inl a)
  .exact f k a (b.elim .inl (λb=> .inr (.inl b)))
 .rcases b with b|b
  .exact h.oa k b a
  .rcases a with a|a
   .have:=h.pw.d.lt k a;omega
   .have:=h.pw.lt k a;omega
 .rcases b with b|b <;> rcases a with a|a
  .exact h.od k b (.inl a)
  .exact f k a (.inr (.inr b))
  .have:=h.rw.e.lt k a;omega
  .have:=i.lt k a;omega
theorem W5.aff {E:PI} (h:W5 w q F P F2 X O p r s S S2 c v1 v2 v3 v4 ss ts rs us) (k:PW w F P' p s S c (ss ++ [E]) ts) (b:∀g,P' g->¬(F2 g\/X g\/O g)) (f:(ss.length+1)*8<=140737488355328):
  ∃g a w1,(Builtin.append_ #[30,30] 30 #[v1, .slice (some (aD w.heap.size 0)) 1 1]).run Tryz.prog (w.alloc (.cells #[pV E.q] 53))= .ok (.slice (some (aD g 0)) (ss.length+1) a) w1/\w1.heap[q]? =some (.cells (Ut p r v1 v2 v3 v4) 35 (0,0))/\
   W5 (w1.setCell ⟨q,2,none⟩ (.slice (some ⟨g,0,none⟩) (ss.length+1) a)) q F P' F2 X (more O w (w1.setCell ⟨q,2,none⟩ (.slice (some ⟨g,0,none⟩) (ss.length+1) a))) p r s S S2 c (.slice (some (aD g 0)) (ss.length+1) a) v2 v3 v4 (ss ++ [E]) ts rs us/\aa O w (w1.setCell ⟨q,2,none⟩ (.slice (some ⟨g,0,none⟩) (ss.length+1) a)):=by
 obtain⟨g,a,w1,l,bC,iA,dw,d,i,j,aX,EH⟩:=h.grow 2 (by kernel_rfl) Tryz.underlying30 h.o1 h.q1 (by decide) E.q f;refine⟨g,a,w1,bC,iA,?_⟩;rw [<-dw];exact⟨h.mkP k b EH (d.trans (by simp)) (by rw [dT,List.map_append];exact i) j (aC h.o2 (λx e=>aX.block x (h.oW x (h.q2 x e)) (oP h.o2 h.o1 h.box (by decide) (by decide) e))) (aC h.o3 (λx e=>aX.block x (h.oW x (h.q3 x e)) (oP h.o3 h.o1 h.box (by decide) (by decide) e))) (λg e=> .inl (h.q3 g e)) (aC h.o4 (λx e=>aX.block x (h.oW x (h.q4 x e)) (oP h.o4 h.o1 h.box (by decide) (by decide) e))),EH⟩
theorem W5.afg {E:RI} (h:W5 w q F P F2 X O p r s S S2 c v1 v2 v3 v4 ss ts rs us) (l:RW w F2 X' r s S2 (rs ++ [E]) us) (b:∀g,X' g->¬(F g\/P g\/O g)) (f:(rs.length+1)*8<=140737488355328):
  ∃g a w1,(Builtin.append_ #[31,31] 31 #[v2, .slice (some (aD w.heap.size 0)) 1 1]).run Tryz.prog (w.alloc (.cells #[pV E.k] 110))= .ok (.slice (some (aD g 0)) (rs.length+1) a) w1/\w1.heap[q]? =some (.cells (Ut p r v1 v2 v3 v4) 35 (0,0))/\
   W5 (w1.setCell ⟨q,3,none⟩ (.slice (some ⟨g,0,none⟩) (rs.length+1) a)) q F P F2 X' (more O w (w1.setCell ⟨q,3,none⟩ (.slice (some ⟨g,0,none⟩) (rs.length+1) a))) p r s S S2 c v1 (.slice (some (aD g 0)) (rs.length+1) a) v3 v4 ss ts (rs ++ [E]) us/\aa O w (w1.setCell ⟨q,3,none⟩ (.slice (some ⟨g,0,none⟩) (rs.length+1) a)):=by
 obtain⟨g,a,w1,m,bC,iA,dw,d,i,j,aX,EH⟩:=h.grow 3 (by kernel_rfl) Tryz.underlying31 h.o2 h.q2 (by decide) E.k f;refine⟨g,a,w1,bC,iA,?_⟩;rw [<-dw];exact⟨h.mkD l b EH (d.trans (by simp)) (aC h.o1 (λx e=>aX.block x (h.oW x (h.q1 x e)) (oP h.o1 h.o2 h.box (by decide) (by decide) e))) (by rw [dT,List.map_append];exact i) j (aC h.o3 (λx e=>aX.block x (h.oW x (h.q3 x e)) (oP h.o3 h.o2 h.box (by decide) (by decide) e))) (aC h.o4 (λx e=>aX.block x (h.oW x (h.q4 x e)) (oP h.o4 h.o2 h.box (by decide) (by decide) e))) (λg e=> .inl (h.q4 g e)),EH⟩
theorem W5.afh {E:PT} (h:W5 w q F P F2 X O p r s S S2 c v1 v2 v3 v4 ss ts rs us) (k:PW w F P' p s S c ss (ts ++ [E])) (b:∀g,P' g->¬(F2 g\/X g\/O g)) (f:(ts.length+1)*8<=140737488355328):
  ∃g a w1,(Builtin.append_ #[32,32] 32 #[v3, .slice (some (aD w.heap.size 0)) 1 1]).run Tryz.prog (w.alloc (.cells #[pV E.t] 56))= .ok (.slice (some (aD g 0)) (ts.length+1) a) w1/\w1.heap[q]? =some (.cells (Ut p r v1 v2 v3 v4) 35 (0,0))/\
   W5 (w1.setCell ⟨q,4,none⟩ (.slice (some ⟨g,0,none⟩) (ts.length+1) a)) q F P' F2 X (more O w (w1.setCell ⟨q,4,none⟩ (.slice (some ⟨g,0,none⟩) (ts.length+1) a))) p r s S S2 c v1 v2 (.slice (some (aD g 0)) (ts.length+1) a) v4 ss (ts ++ [E]) rs us/\aa O w (w1.setCell ⟨q,4,none⟩ (.slice (some ⟨g,0,none⟩) (ts.length+1) a)):=by
 obtain⟨g,a,w1,l,bC,iA,dw,d,i,j,aX,EH⟩:=h.grow 4 (by kernel_rfl) Tryz.underlying32 h.o3 h.q3 (by decide) E.t f;refine⟨g,a,w1,bC,iA,?_⟩;rw [<-dw];exact⟨h.mkP k b EH (d.trans (by simp)) (aC h.o1 (λx e=>aX.block x (h.oW x (h.q1 x e)) (oP h.o1 h.o3 h.box (by decide) (by decide) e))) (λg e=> .inl (h.q1 g e)) (aC h.o2 (λx e=>aX.block x (h.oW x (h.q2 x e)) (oP h.o2 h.o3 h.box (by decide) (by decide) e))) (by rw [dT,List.map_append];exact i) j (aC h.o4 (λx e=>aX.block x (h.oW x (h.q4 x e)) (oP h.o4 h.o3 h.box (by decide) (by decide) e))),EH⟩
theorem W5.afi {E:RJ} (h:W5 w q F P F2 X O p r s S S2 c v1 v2 v3 v4 ss ts rs us) (k:RW w F2 X' r s S2 rs (us ++ [E])) (b:∀g,X' g->¬(F g\/P g\/O g)) (f:(us.length+1)*8<=140737488355328):
  ∃g a w1,(Builtin.append_ #[33,33] 33 #[v4, .slice (some (aD w.heap.size 0)) 1 1]).run Tryz.prog (w.alloc (.cells #[pV E.u] 122))= .ok (.slice (some (aD g 0)) (us.length+1) a) w1/\w1.heap[q]? =some (.cells (Ut p r v1 v2 v3 v4) 35 (0,0))/\
   W5 (w1.setCell ⟨q,5,none⟩ (.slice (some ⟨g,0,none⟩) (us.length+1) a)) q F P F2 X' (more O w (w1.setCell ⟨q,5,none⟩ (.slice (some ⟨g,0,none⟩) (us.length+1) a))) p r s S S2 c v1 v2 v3 (.slice (some (aD g 0)) (us.length+1) a) ss ts rs (us ++ [E])/\aa O w (w1.setCell ⟨q,5,none⟩ (.slice (some ⟨g,0,none⟩) (us.length+1) a)):=by
 obtain⟨g,a,w1,l,bC,iA,dw,d,i,j,aX,EH⟩:=h.grow 5 (by kernel_rfl) Tryz.underlying33 h.o4 h.q4 (by decide) E.u f;refine⟨g,a,w1,bC,iA,?_⟩;rw [<-dw];exact⟨h.mkD k b EH (d.trans (by simp)) (aC h.o1 (λx e=>aX.block x (h.oW x (h.q1 x e)) (oP h.o1 h.o4 h.box (by decide) (by decide) e))) (aC h.o2 (λx e=>aX.block x (h.oW x (h.q2 x e)) (oP h.o2 h.o4 h.box (by decide) (by decide) e))) (λg e=> .inl (h.q2 g e)) (aC h.o3 (λx e=>aX.block x (h.oW x (h.q3 x e)) (oP h.o3 h.o4 h.box (by decide) (by decide) e))) (by rw [dT,List.map_append];exact i) j,EH⟩
end
theorem WH {β:Type} {f:α->β} {l:List α} {a b:α} (c:l[i]? =some a) (h:f b=f a):(l.set i b).map f=l.map f:=by
 rw [List.map_set];apply List.ext_getElem?;intro n;by_cases e:n=i
 .subst e;rw [List.getElem?_set_self (by simpa using ((mG.1 c).1)),Bd,c,h];rfl
 .rw [List.getElem?_set_ne (λh=>e h.symm)]
theorem mV {l:List α} {a x:α} (b:(l ++ [a])[n]? =some x):(n=l.length/\x=a)\/(n<l.length/\l[n]? =some x):=by
 by_cases e:n<l.length
 .rw [List.getElem?_append_left e] at b;exact .inr ⟨e,b⟩
 .have d:=(mG.1 b).1;have c:n=l.length:=by simp at d;omega
  subst c;rw [List.getElem?_append_right (bP _),Nat.sub_self] at b;exact .inl ⟨rfl,by simpa using b.symm⟩
theorem Ts {l:List α} {a x:α} (h:l[n]? =some x):(l ++ [a])[n]? =some x:=by
 rw [List.getElem?_append_left (mG.1 h).1];exact h
theorem MB (l:List α) (a:α):(l ++ [a])[l.length]? =some a:=by
 rw [List.getElem?_append_right (bP _),Nat.sub_self];rfl
theorem Lk.begun {S:DS} {s:Nat} {v:List PI} {z:List PT} {rs:List RI} {us:List RJ} {t u:Nat} {tv:Value} (h:Lk S s N v z rs us) (x:v[i]? =some I) (f:rs[i]? =some R) (U:I.G.busy=false):
  Lk S s N (v.set i {I with G:={I.G with busy:=true}}) (z ++ [⟨i,t,n,⟨[],0,false⟩⟩]) (rs.set i {R with G:={I.G with busy:=true},nv:=pV u}) (us ++ [⟨i,u,tv, [],⟨[],0,false⟩⟩]):=by
 have bR:∀(j:Nat) (J:PT),z[j]? =some J->J.i=i->J.T.ended=true:=λj J k g=>by
  rcases h.now i I R x f with ⟨_,_,o⟩|⟨r,J',K',l,_,o,_,E,F⟩
  .exact o j J k g
  .by_cases e:j=r
   .subst e;rw [k] at l;cases l;rw [E,U];rfl
   .exact F j J k g e
 refine⟨by rw [List.length_set,List.length_set];exact h.sl,λm A C c a=>?_,by rw [dT,dT,h.tl];rfl,λm A C c a=>?_,?_,λm A C c a=>?_,λC a=>?_,λm C K a p g O=>?_,h.rf⟩
 .rcases dg x c with ⟨d,rfl⟩|⟨q,c⟩<;> rcases dg f a with ⟨w,rfl⟩|⟨y,a⟩
  .rfl
  .exact absurd d y
  .exact absurd w q
  .exact h.sg m A C c a
 .have M:=h.tl;rcases mV c with ⟨d,rfl⟩|⟨q,c⟩<;> rcases mV a with ⟨w,rfl⟩|⟨y,a⟩
  .exact⟨rfl,rfl⟩
  .omega
  .omega
  .exact h.tg m A C c a
 .have M:(v.set i {I with G:={I.G with busy:=true}}).map (λI:PI=>I.G.L)=v.map (λI:PI=>I.G.L):=WH x rfl;rw [M];exact h.inv
 .rcases dg x c with ⟨d,rfl⟩|⟨q,c⟩<;> rcases dg f a with ⟨w,rfl⟩|⟨y,a⟩
  .refine .inr ⟨z.length,_,_,MB _ _,by rw [<-h.tl];exact MB _ _,d.symm,rfl,rfl,λr J' b nj dG=>?_⟩;rcases mV b with ⟨P,_⟩|⟨_,b⟩
   .exact absurd P dG
   .exact bR r J' b (nj.trans d)
  .exact absurd d y
  .exact absurd w q
  .rcases h.now m A C c a with ⟨l,D,o⟩|⟨j,J,K,l,D,o,Q,E,F⟩
   .refine .inl ⟨l,D,λj J k g=>?_⟩;rcases mV k with ⟨_,rfl⟩|⟨_,k⟩
    .exact absurd g.symm q
    .exact o j J k g
   .refine .inr ⟨j,J,K,Ts l,Ts D,o,Q,E,λr J' b nj dG=>?_⟩;rcases mV b with ⟨_,rfl⟩|⟨_,b⟩
    .exact absurd nj.symm q
    .exact F r J' b nj dG
 .obtain⟨m,H⟩:=List.mem_iff_getElem?.1 a;rcases dg f H with ⟨_,rfl⟩|⟨_,H⟩
  .exact h.cs R (gu f)
  .exact h.cs C (gu H)
 .rcases List.mem_append.1 p with p|p
  .rcases dg f a with ⟨d,rfl⟩|⟨_,a⟩
   .exact h.ct i R K f p (g.trans d) O
   .exact h.ct m C K a p g O
  .rw [List.mem_singleton.1 p];show C.ps.length+0<=N;rw [Nat.add_zero];rcases dg f a with ⟨d,rfl⟩|⟨_,a⟩
   .exact h.cs R (gu f)
   .exact h.cs C (gu a)
theorem W5.nowAt {w:World} {q:Nat} {F P F2 X O:Nat->Prop} {p r s c:Nat} {S d:DS} {v x y z:Value} {g Tm:List PI} {k:List PT} {rs:List RI} {us:List RJ} (h:W5 w q F P F2 X O p r s S d c v x y z Tm k rs us) (e:Lk d s N g k rs us) (n:g[i]? =some I) (o:rs[i]? =some R):XC w R.nv I.G.busy:=by
 rcases e.now i I R n o with ⟨b,a,_⟩|⟨j,J,K,b,a,A,l,m,_⟩
 .exact .inl ⟨b,a⟩
 .obtain⟨M,C,t⟩:=h.rw.tx K (gu a);have f:=t.tx;refine .inr ⟨K.u,l,f.lt,?_⟩;have:=bH f;rw [<-m,<-((e.tg j J K b a).2)];exact this
end
theorem B.afj (h:B.ax w F p s S c) (a:Int) (f:a<=9223372036854775807):Calls prog 26 #[pQ p,iV a] w λe w'=>e= .returned (.tuple #[])/\B.ax w' F p s (S.lay a) c/\aa F w w':=by
 obtain⟨r,h,g⟩:=h;refine(WY h a f).mono ?_;rintro e w' ⟨rfl,b,d⟩;exact⟨rfl,⟨r,by rw [<-Vb];exact b,g⟩,d⟩
theorem aaN {G:Nat->Prop} {r q:Nat} {v1 v2 v3 v4:Value} (h:B.ax w F p s S c) (he:aB w G r s S) (E:∀k,F k->¬G k) (N:w.heap[q]? =some (.cells (Ut p r v1 v2 v3 v4) 35 (0,0))) (H:¬F q) (aT:S.puts.length+1<=4000000000000) (EG:S.refused=0) (hc:c<4611686018427387904):
  Calls prog 13 #[pV q] w λe w'=>e= .returned (.bool true)/\B.ax w' F p s S (c+s)/\aa F w w':=by
 obtain⟨ib,X⟩:=bL h.lt EG;clear EG;obtain⟨P,L,z,Mb,afk,Po,h1⟩:=nW (yh h) (yh he) (yh N) h.ok.hi (aw N) (yh h.ok) (B.JO h);have Y:w.cell? (aD q 0)=some (pV p):=aL N;obtain⟨M,BI⟩:∃M,M=(S.fuse == 0):=⟨_,rfl⟩;have akH:Yh (∀w',B.ax w' F p s S c->Calls prog 35 #[pQ p] w' λe Bh=>e= .returned (.bool M)/\Bh=w'):=λw' h=>by rw [BI];exact B.yU h
 have akI:Yh (∀w',aB w' G r s S->Calls prog 36 #[pQ r] w' λe Bh=>e= .returned (.bool M)/\Bh=w'):=λw' h=>by rw [BI];exact j3 h
 clear h he N BI;go_in;go_wp2_with fail;refine h1.mono ?_;rintro e w1 ⟨g1,cc1,rfl,o8,lG,aq⟩;have aaO:=(aq.block q afk).trans z.o;have Px:w1.cell? (aD q 0)=some (pV p):=aL aaO;have Iw:w1.cell? (aD q 1)=some (pV r):=bD aaO;have ed:=lG.src;rw [Po.o.len] at ed;obtain⟨oN,cN,aaP,dr⟩:=cM (yh ed) (yh aq) (yh (ai aq)) aq.size;clear h1 lG ed aq aaO Y;go_wp2_with fail;go_region_held3 (λw'=>w'.cell? (aD q 0)=some (pV p)/\w'.cell? (aD q 1)=some (pV r))
  (first|exact⟨Px,Iw⟩|exact⟨l,n⟩|exact⟨m,u⟩)
  (first
   |(go_at_call 34;refine(Kd (L.o.later aaP.o)).mono ?_;rintro e w2 ⟨g2,rq,rfl,fU,fb,aW⟩;have bo:=fb.src;rw [Po.o.len] at bo;have l:=cell_later aW Px;have n:=cell_later aW Iw)
   |(go_at_call 21;refine(pb (some (aD g1 0)) (some (aD g2 0)) (s*512) cc1 rq S.im w2 (by omega) (oN.o.later ((ai (bi w1.heap.size w1)).trans aW)) bo).mono ?_;rintro e w3 ⟨rfl,bz⟩;have m:=cell_later bz l;have u:=cell_later bz n;have fS:=yh (aaP.o.trans ((aW.mono dr).trans (bz.mono (jQ dr aW.size)))))
   |(go_at_call 35;refine(akH.o _ (P.o.later fS.o)).mono ?_;rintro e y ⟨rfl,tD⟩;have Ex:=tD.symm;clear tD;subst Ex)
   |(go_at_call 36;refine(akI.o _ (L.o.later fS.o)).mono ?_;rintro e w5 ⟨rfl,I3⟩;have Ld:=I3.symm;clear I3;subst Ld))
 have O:=yh m;have A:=yh u;have kO:=fS.o.size;clear bo fb aW bz Px Iw l n u;go_wp2_with fail;refine(B.qQ (P.o.later fS.o) (by omega) hc).mono ?_;rintro e y ⟨rr,rfl,_,_,fe⟩;have vS:=fe.size;have jB:Yh (bW w y):=fS.o.trans (fe.mono kO);have ff:=aI y (.cells (dL (rr:Int) S.writes S.flushes S.refused S.puts.length) 65);have Ju:=jB.o.trans (ff.mono (by omega));have c14:=cell_later ff (cell_later fe A.o);have QF:(y.alloc (.cells (dL (rr:Int) S.writes S.flushes S.refused S.puts.length) 65)).heap[y.heap.size]? =some (.cells (dL (rr:Int) S.writes S.flushes S.refused S.puts.length) 65 (0,0)):=heap_alloc_new _ _;obtain⟨aX,qE,jd,g⟩:=cM (J7 (L.o.later Ju)) ff.size (yh Ju) (yh QF);clear fe m ff Ju QF;go_wp2_with fail;refine bE aX λK ny=>?_;have Mf:=ny.size;have vU:=aI K (.cells (dL S.reads S.writes S.flushes S.refused S.puts.length) 65);have NR:=(vU.block y.heap.size (iP (aw g.o) Mf)).trans ((ny.block y.heap.size (aw g.o)).trans g.o);have a:(K.alloc (.cells (dL S.reads S.writes S.flushes S.refused S.puts.length) 65)).heap[K.heap.size]? =some (.cells (dL S.reads S.writes S.flushes S.refused S.puts.length) 65 (0,0)):=heap_alloc_new _ _;obtain⟨a1,a2,a3,a4,b1,b2,b3,b4,OU⟩:=UD (bD NR) (bH NR) ((fI NR).trans (congrArg (λt=>some (Value.int .i64 t)) X.o)) (gz NR) (bD a) (bH a) (fI a) (gz a) (jQ kO vS);have Fk:Yh (bW w (K.alloc (.cells (dL S.reads S.writes S.flushes S.refused S.puts.length) 65))):=jd.o.trans ((ny.mono (jQ OU qE)).trans (vU.mono (jQ OU (jQ qE Mf))));clear aX ny vU NR a c14 jB fS cN aaP oN O A;go_wp2;generalize K.alloc (.cells (dL S.reads S.writes S.flushes S.refused S.puts.length) 65)=w7 at*;clear a1 a2 a3 a4 b1 b2 b3 b4;have Z2:=Fk.o.size;go_loopw [6] (λi wr=>∃j:Nat,j<=s/\i=iV (j:Int)/\B.ax wr F p s S (c+j)/\aa F w7 wr) (λi _=>s-(intOf i).toNat);case atStart=>exact⟨0,dU _,rfl,(yh (P.o.later Fk.o)).out,aa.refl _ _⟩
 case round=>
  obtain⟨j,hj,rfl,hd,I⟩:=hrel;obtain⟨sH,CP⟩:=bL hd I;have f:=(I.block q (by omega) H).trans (yh ((Fk.o.block q afk).trans z.o)).out;have Y:wr.cell? (aD q 0)=some (pV p):=aL f;have c1:wr.cell? (aD q 1)=some (pV r):=bD f;have b:=(yh (L.o.later Fk.o)).out.au I (λk hg v=>E k v hg);obtain⟨ed,bo,Aa,R,W⟩:=ey (mv b) (j3 b) I.size (yh b) (yh f);clear hd I f b;by_cases bm:j<s
  .have cw:(j:Int)<(s:Int):=(by omega);go_wp2_with fail;refine bE ed λw8 Ye=>?_;have Tt:=Ye.symm;clear Ye;subst Tt;go_wp2_with fail;refine bE bo λw8 Ye=>?_;have Tt:=Ye.symm;clear Ye ed bo;subst Tt;by_cases v:S.fuse=0
   .have d:(S.fuse == 0)=true:=(by rw [v];rfl);have T:Yh (B.ax wr F p s S (c+s)/\aa F w wr):=⟨sH.o.le (by omega),(aa.ah F Fk.o).trans CP.o (λ_ h=> .inl h)⟩;go_wp2;go_ret;exact⟨rfl,T.o⟩
   .have d:(S.fuse == 0)=false:=(by rw [eG];exact v);go_wp2_with fail;refine(B.zC sH.o j bm aT v).mono ?_;rintro e w9 ⟨v9,rfl,ho9,ZU,A4⟩;obtain⟨a9,c9,rfl,x,_⟩:=ho9;have Yf:=br Po.o j bm;rw [Yf] at x⊢;have Iw:w9.cell? (aD q 1)=some (pV r):=bD ((A4.block q (by omega) H).trans W.o);have C:=jF (R.o.au A4 (λk hg v=>E k v hg)) j bm (by omega);have Q:=yh ZU;have U:Yh (aa F w7 w9):=CP.o.trans A4 (λ_ h=> .inl h);have hz9:=A4.size;clear ZU A4 Y c1;go_wp2_with fail;refine C.mono ?_;rintro e SV ⟨g10,Z,rfl,_,Dr,afm⟩;have afn:=afm.symm;clear afm;subst afn;have aaQ:=Dr.src;rw [Yf] at aaQ;have D:=pb a9 (some (aD g10 0)) 512 c9 Z (S.now j) w9 (by omega) x aaQ;clear C Dr x aaQ;go_wp2_with fail;refine bE D λJ aaR=>?_;have HZ:Yh (B.ax J F p s S (c+(j+1))/\aa F w7 J):=⟨Q.o.later aaR,U.o.trans (aa.ah F aaR) (λ_ h=> .inl h)⟩;clear D aaR;go_wp2;go_roundw;case rel=>exact⟨j+1,by omega,by go_num,HZ.o⟩
    case measure=>simp [intOf];omega
  .obtain rfl:j=s:=(by omega);have vQ:¬(j:Int)<(j:Int):=(by omega);have T:Yh (B.ax wr F p j S (c+j)/\aa F w wr):=⟨sH.o,(aa.ah F Fk.o).trans CP.o (λ_ h=> .inl h)⟩;go_wp2_with fail;refine bE ed λw8 Ye=>?_;have Tt:=Ye.symm;clear Ye;subst Tt;go_wp2;go_ret;exact⟨rfl,T.o⟩
section
theorem Le {S:DS} (h:G.begin S=0):G.busy=false:=by
 unfold SG.begin at h;split at h
 .exact absurd h (by decide)
 .split at h
  .exact absurd h (by decide)
  .rename_i q;simpa using q
theorem W5.under {w:World} {q:Nat} {F P F2 X O:Nat->Prop} {p r s c:Nat} {S b:DS} {j k l m:Value} {f:List PI} {i:List PT} {rs:List RI} {us:List RJ} (h:W5 w q F P F2 X O p r s S b c j k l m f i rs us) (g:Nat) (a:F g\/P g\/F2 g\/X g\/O g):g<w.heap.size:=by
 rcases a with a|a|a|a|a
 .exact h.pw.d.lt g a
 .exact h.pw.lt g a
 .exact h.rw.e.lt g a
 .exact h.rw.lt g a
 .exact h.oW g a
section
variable {w w':World} {q:Nat} {F P F2 X O A:Nat->Prop} {p r s c N:Nat} {S:DS} {v1 v2 v3 v4:Value} {ss:List PI} {ts:List PT} {rs:List RI} {us:List RJ}
end
end
section
section
variable {w w':World} {F:Nat->Prop} {p r s c:Nat} {S S':DS} {L:LG} {x:Int}
def OV (w:World) (F:Nat->Prop) (p s c:Nat) (S:DS) (e:Ending) (w':World):Prop:=∃x S' cR,cR<=c+261/\jP S s x S'/\aa F w w'/\((x≠0/\e= .returned (.tuple #[.pointer none,iV x])/\B.ax w' (more F w w') p s S' cR)\/(x=0/\∃q l m L F',sR S s L/\e= .returned (.tuple #[pQ q,iV 0])/\(∀k,F' k->more F w w' k)/\w.heap.size<=q/\w.heap.size<=l/\w.heap.size<=m/\ig w' F' p s cR q l m S' ⟨cz (S.now 0),L, [],false⟩))
theorem AG (h:B.ax w F p s S c) (cZ:S.fC) (aT:S.puts.length+6000<=4000000000000):
  Calls prog 18 #[pQ p] w λe w'=>OV w F p s c S e w':=by
 by_cases iZ:S.fuse=0\/¬lT (S.now 0) s
 .have rl:∀x,jP S s x S->x≠0:=λx j e=>by
   rcases j with ⟨_,n,_⟩|⟨a,b,_⟩
   .exact n e
   .exact iZ.elim b (λh=>h a)
  refine(OC h cZ (by omega) iZ).mono ?_;rintro e w' ⟨x,rfl,d,f,i⟩;exact⟨x,S,c+1,by omega,d,i, .inl ⟨rl x d,rfl,f.more⟩⟩
 .have qv:=Classical.byContradiction (λe=>iZ (.inr e));refine(OQ h cZ aT (λe=>iZ (.inl e)) qv).mono ?_;rintro e w' ⟨x,S',g,d,f⟩;exact⟨x,S',g,by have:=kh qv;omega,f⟩
theorem Lf (h:aB w F r s S) (cZ:S.fC) (aT:S.puts.length+6000<=4000000000000):
  Calls prog 68 #[pQ r] w λe w'=>eD w F r s S e w':=by
 by_cases a:S.fuse=0
 .exact If h a
 .exact Ig h a cZ aT
theorem nO {home:Nat}:∀{ms:CM} {S:DS},(sbring S s home ms).2.life=S.life
 | [],_=>rfl
 |q :: qs,S=>by
  have a:=kq S s ((home+q.1:Nat):Int) 512 q.2;unfold sbring;split
  .exact a
  .exact nO.trans a
theorem Tu (S:DS) (s:Nat) (f n:Int):(bu S s f n).2=S\/(bu S s f n).2.life=wrap64 (S.life+1):=by
 unfold bu;split
 .exact .inl rfl
 .split
  .exact .inr rfl
  .split
   .exact .inr rfl
   .exact .inr (fO _ _)
theorem Ix {y:LY} {ov:CM} {rs:List (List Int)}:(ee S s y ov rs).2.life=S.life:=by
 unfold ee;split
 .rfl
 .split
  .exact nO
  .exact(fO _ _).trans nO
theorem Tv:(L.start S s).2.1.life=S.life:=by
 unfold LG.start;split
 .rfl
 .split
  .rfl
  .split <;> exact iJ _ _ _ _
theorem jP.life (h:jP S s x S'):(S'=S/\x≠0)\/S'.life=wrap64 (S.life+1):=by
 rcases h with ⟨_,n,rfl⟩|⟨qv,d,k⟩
 .exact .inl ⟨rfl,n⟩
 .rcases k with ⟨_,n,rfl⟩|⟨c,rs,hd,Fl,k⟩
  .exact(Tu S s 1 (((cz (S.now 0)).log:Nat):Int)).imp (λh=>⟨h,n⟩) id
  .refine .inr ?_;have a:(bu S s 1 (((cz (S.now 0)).log:Nat):Int)).2.life=wrap64 (S.life+1):=by
    obtain⟨_,_,_,e⟩:=lV (f:=1) c;have b:bu S s 1 (((cz (S.now 0)).log:Nat):Int)=S.take.fl s:=e;rw [b];exact fO _ _
   rcases k with ⟨_,_,rfl⟩|⟨ov,uF,k⟩
   .exact a
   .rcases k with ⟨_,_,rfl⟩|⟨_,_,rfl⟩
    .exact Ix.trans a
    .exact Tv.trans (Ix.trans a)
theorem AH {g:Nat->DS->Int×DS} (a:∀j T,(g j T).2.life=T.life):∀k,(stepsTo S g k).2.life=S.life
 |0=>rfl
 |k+1=>by
  have:=AH a k;unfold stepsTo;split
  .exact this
  .exact(a k _).trans this
theorem Lg (S:DS) (s:Nat) (f n:Int):(cy S s f n).2.life=S.life\/(cy S s f n).2.life=wrap64 (S.life+1):=by
 unfold cy;split
 .exact .inl rfl
 .refine .inr ?_;have a:(bA S.take s f.toNat (n.toNat+2)).2.life=wrap64 (S.life+1):=AH (λ_ _=>kq _ _ _ _ _) _;have b:(cK S.take s f.toNat n.toNat).2.life=wrap64 (S.life+1):=by
   unfold cK;split
   .exact a
   .exact(fO _ _).trans a
  split
  .exact b
  .exact(iJ _ _ _ _).trans b
theorem uy (S:DS) (s a n:Nat):(eu S s a n).2.life=S.life:=by
 unfold eu;split
 .exact nO
 .exact(fO _ _).trans nO
theorem Lh (S:DS) (s:Nat) (a b c:Int):(bT S s a b c).2=S\/(bT S s a b c).2.life=wrap64 (S.life+1)\/(bT S s a b c).2.life=wrap64 (wrap64 (S.life+1)+1):=by
 unfold bT;split
 .exact .inl rfl
 .split
  .refine .inr ?_;have e:(lZ S s).2.life=wrap64 (S.life+1):=uy S.take s 0 1;have f:(mW S s).2.life=wrap64 (S.life+1):=(uy (lZ S s).2 s 1 (s-1)).trans e;have d:(jJ S s b.toNat).2.life=wrap64 (S.life+1)\/(jJ S s b.toNat).2.life=wrap64 (wrap64 (S.life+1)+1):=by
    have:=Lg (mW S s).2 s 1 (b.toNat:Int);rw [f] at this;exact this
   have g:(l5 S s b.toNat c.toNat).2.life=(jJ S s b.toNat).2.life:=kq _ _ _ _ _;unfold ly;split
   .exact .inl e
   .split
    .exact .inl f
    .split
     .exact d
     .split
      .rw [g];exact d
      .rw [fO,g];exact d
  .exact .inl rfl
theorem AI (h:L.life<S.life):L.dead S=true:=by
 unfold LG.dead;have:(S.life != L.life)=true:=by rw [fT];omega
 rw [this,Bool.or_true]
def Tw (S S':DS) (rs:List RI):Prop:=∀R∈rs,R.G.L.dead S'=false->R.G.L.dead S=false/\∀b,b<R.G.y.blocks->S'.now (R.G.y.home+b)=S.now (R.G.y.home+b)
theorem Lk.Yg (h:Lk S s N ss ts rs us):∀R∈rs,R.G.L.life<=S.life:=λR c=>by
 obtain⟨i,b⟩:=List.mem_iff_getElem?.1 c;obtain⟨I,a⟩:∃I,ss[i]? =some I:=⟨ss[i]'(by rw [<-h.sl];exact(mG.1 b).1),List.getElem?_eq_getElem _⟩;rw [h.sg i I R a b];exact(h.inv.ol I.G.L (List.mem_map.2 ⟨I,gu a,rfl⟩)).2
theorem Lk.sK (h:Lk S s N ss ts rs us) (a:S'=S\/S.life<S'.life):Tw S S' rs:=λR b hd=>by
 rcases a with rfl|a
 .exact⟨hd,λ_ _=>rfl⟩
 .rw [AI (by have:=h.Yg R b;omega)] at hd;cases hd
theorem vD (h0:0<=S.life) (a:S.life<=N) (b:N<=3999999990000):wrap64 (S.life+1)=S.life+1/\wrap64 (wrap64 (S.life+1)+1)=S.life+2:=by
 have e:wrap64 (S.life+1)=S.life+1:=by unfold wrap64;omega
 refine⟨e,?_⟩;rw [e];unfold wrap64;omega
theorem Lk.opened (h:Lk S s N ss ts rs us) (f:N<=M) (c:V.Inv S' s (ss.map (λI=>I.G.L) ++ [I.G.L]) M) (l:R.G=I.G) (n:R.nv= .pointer none) (o:I.G.busy=false) (p:R.ps= []) (t:∀J∈ts,J.i<ss.length) (u:∀K∈us,K.i<rs.length) (EG:S'.refused=S.refused):Lk S' s M (ss ++ [I]) ts (rs ++ [R]) us:=by
 have x:=h.sl;refine⟨by rw [dT,dT,h.sl];rfl,λm A C b a=>?_,h.tl,h.tg,by rw [List.map_append];exact c,λm A C b a=>?_,λC a=>?_,λm C K a e g v=>?_,EG.trans h.rf⟩
 .rcases mV b with ⟨d,rfl⟩|⟨k,b⟩<;> rcases mV a with ⟨q,rfl⟩|⟨w,a⟩
  .exact l
  .omega
  .omega
  .exact h.sg m A C b a
 .rcases mV b with ⟨d,rfl⟩|⟨k,b⟩<;> rcases mV a with ⟨q,rfl⟩|⟨w,a⟩
  .refine .inl ⟨n,o,λj J r g=>?_⟩;have:=t J (gu r);omega
  .omega
  .omega
  .exact h.now m A C b a
 .rcases List.mem_append.1 a with a|a
  .exact jQ (h.cs C a) f
  .rw [List.mem_singleton.1 a,p];exact dU _
 .rcases mV a with ⟨d,rfl⟩|⟨k,a⟩
  .have:=u K e;omega
  .exact jQ (h.ct m C K a e g v) f
theorem PW.ti {P:Nat->Prop} (h:PW w F P p s S c ss ts):∀J∈ts,J.i<ss.length:=λJ b=>by
 obtain⟨I,a,_⟩:=h.tx J b;exact(mG.1 a).1
theorem RW.ui {X:Nat->Prop} (h:RW w F X r s S rs us):∀K∈us,K.i<rs.length:=λK b=>by
 obtain⟨I,a,_⟩:=h.tx K b;exact(mG.1 a).1
end
end
section
section
variable {w w':World} {q:Nat} {F P F2 X O A:Nat->Prop} {p r s c N:Nat} {S:DS} {v1 v2 v3 v4:Value} {ss:List PI} {ts:List PT} {rs:List RI} {us:List RJ}
theorem aaS (h:W5 w q F P F2 X O p r s S S c v1 v2 v3 v4 ss ts rs us) (n:Lk S s N ss ts rs us) (f:∀g,(F g\/P g\/F2 g\/X g\/O g)->A g) (h1:ss.length<=N) (h2:ts.length<=N) (hc:c<=5000*N) (hN:N<=3999999990000):
  Calls prog 25 #[pV q] w λe w'=>e= .returned (.bool true)/\dJ w w' q A p r s N:=by
 obtain⟨L9,l1,l2,c0,c1⟩:=ey n.inv.p6 (B.vV h.pw.d) (nE h.rw.e) h.c0 h.c1;have ho:=AG h.pw.d n.inv.pO (by omega);have u:=(λ(j:World) (hd:aB j F2 r s S)=>Lf hd n.inv.pO (by omega));obtain⟨wl1,wl2⟩:=vD n.inv.l0 n.inv.lt hN;obtain⟨l,o,Fg⟩:=jw h n h.under;clear h n;go_in;go_wp2_with fail;refine bE l1 λw1 bN=>?_;have j9:=bN.symm;clear bN l1;subst j9;go_wp2_with fail;refine bE l2 λw1 bN=>?_;have j9:=bN.symm;clear bN l2;subst j9;go_wp2_with fail;refine ho.mono ?_;rintro e j ⟨x,S',cR,hcR,l6,aX,Iy⟩;have hS:S'=S\/S.life<S'.life:=l6.life.imp (λh=>h.1) (λh=>by omega);have H:x=0->S.life<S'.life:=λe=>l6.life.elim (λh=>absurd e h.2) (λh=>by omega);obtain⟨ec,EG,z,C⟩:=cM aX.size l6.rf l6 ((o.sK hS));have t:=(o.inv.fv (by omega) l6);have oQ:aa (λg=>F g\/P g) w j:=aX.mono (λg h=> .inl h);clear ho l6 hS;rcases Iy with ⟨b,rfl,cC⟩|⟨b,q0,l0,m0,L,F',mL,rfl,Yi,Xh,vJ,ZI,kZ⟩
 .have i8:=l.pw.lA (λg h=>h) cC aX;have gY:=l.prog i8 oQ (λg h=>h) rfl rfl;obtain⟨J,Iw,eV,gQ⟩:=cM (u j gY.rw.e) gY.c1 gY oQ;clear i8 gY cC aX oQ c0 c1;go_wp2_with fail;refine J.mono ?_;rintro e i ⟨y,S2,Ih,aV,Li⟩;obtain⟨e1,e2⟩:=z.same Ih;subst e1;subst e2;clear Ih J;rcases Li with ⟨_,rfl,xS⟩|⟨rl,_⟩
  .have lW:=eV.rw.lA (λg h=>h) xS aV C;have mQ:aa (λg=>F2 g\/X g) j i:=aV.mono (λg h=> .inl h);have gW:=eV.doc lW mQ (λg h=>h) (λg h=> .inl h) rfl rfl;have j7:=ai (bi i.heap.size i);have uz:=gW.later j7;obtain⟨U,W,D,E⟩:=cM (B.vV uz.pw.d) (nE uz.rw.e) gW.c0 gW.c1;have mE:=(((gQ).mono (λg a=>f g (by rcases a with a|a;exact .inl a;exact .inr (.inl a)))).trans mQ (λg a=> .inl (f g (by rcases a with a|a;exact .inr (.inr (.inl a));exact .inr (.inr (.inr (.inl a))))))).trans (aa.ah (λ_=>False) j7) (λ_ h=>h.elim);have Y:(dJ w i.drew q A p r s N):=⟨λg=>A g\/w.heap.size<=g,⟨_,_,_,_,_,_,cR,_,_,_,_,_,_,_,_,uz,o.Tr (M:=N+2) (by omega) ((t.1 b).more (by omega)) EG,λg a=>(by
    rcases a with (a|a)|a|(a|a)|a|a
    .exact .inl (f g (.inl a))
    .exact .inr a.1
    .exact .inl (f g (.inr (.inl a)))
    .exact .inl (f g (.inr (.inr (.inl a))))
    .exact .inr (by omega)
    .exact .inl (f g (.inr (.inr (.inr (.inl a)))))
    .exact .inl (f g (.inr (.inr (.inr (.inr a)))))),by omega,by omega,by omega⟩,mE,λ_ h=>h⟩
   clear lW mQ gW uz j7 mE xS aV Iw;go_wp2_with fail;go_region_held3 (λw'=>w'.cell? (aD q 0)=some (pV p)/\w'.cell? (aD q 1)=some (pV r))
    (exact⟨D,E⟩)
    (first
     |(go_at_call 22;refine U.mono ?_;rintro e w4 ⟨rfl,tD⟩;have Ex:=tD.symm;clear tD;subst Ex)
     |(go_at_call 23;refine W.mono ?_;rintro e w5 ⟨rfl,I3⟩;have Ld:=I3.symm;clear I3;subst Ld))
   clear U W D E;go_wp2;go_ret;exact⟨by simp,Y⟩
  .exact absurd rl b
 .subst b;have H:=H rfl;have gY:=l.prog (l.pw.lA Yi kZ.d aX) oQ Yi rfl rfl;obtain⟨J,Iw,nq,nl,nm,eV,gQ,HPN,v⟩:=UD (u j gY.rw.e) gY.c1 kZ.st.lt kZ.lp.lt kZ.ch.lt gY oQ (l.pw.push Yi kZ Xh vJ ZI aX) mL;clear gY kZ aX oQ c0 c1 mL;go_wp2_with fail;refine J.mono ?_;rintro e i ⟨y,S2,Ih,aV,Li⟩;obtain⟨e1,e2⟩:=z.same Ih;subst e1;subst e2;clear Ih J;rcases Li with ⟨rl,_⟩|⟨_,k0,T,L2,F3,X2,afo,rfl,RO,Ml,xS,EI⟩
  .exact absurd rfl rl
  .obtain rfl:=v.same afo;have Q:=eV.rw.push (I:=⟨k0,T, .slice none 0 0, [],0, .pointer none,⟨cz (S.now 0),L, [],false⟩⟩) RO Ml xS EI rfl aV (λK hK=>AI (by have:=o.Yg K hK;omega));have mQ:aa (λg=>F2 g\/X g) j i:=aV.mono (λg h=> .inl h);have gW:=eV.doc (eV.rw.lA RO xS aV C) mQ RO (λg h=> .inl h) rfl rfl;have z2:j.heap.size<=i.drew.heap.size:=aV.size;have lI:∀g,w.heap.size<=g->¬(F2 g\/X g\/O g):=λg a b=>by have:=Fg g (by rcases b with b|b|b;exact .inr (.inr (.inl b));exact .inr (.inr (.inr (.inl b)));exact .inr (.inr (.inr (.inr b))));omega
   have k:∀g,w.heap.size<=g->¬P g:=λg a b=>by have:=Fg g (.inr (.inl b));omega
   have afp:=HPN.au aV (λg a b=>eV.ad g (.inl a) (.inl b)) (λg a b=>by
    rcases a with a|a
    .exact eV.ad g (.inr a) (.inl b)
    .exact lI g (by omega) (.inl b))
   have j7:=ai (bi i.heap.size i);have G:∀g,X2 g->g<i.drew.heap.size:=EI.lt;have BS:=(((gQ).mono (λg a=>f g (by rcases a with a|a;exact .inl a;exact .inr (.inl a)))).trans mQ (λg a=> .inl (f g (by rcases a with a|a;exact .inr (.inr (.inl a));exact .inr (.inr (.inr (.inl a))))))).trans (aa.ah (λ_=>False) j7) (λ_ h=>h.elim);have uz:=gW.later j7;obtain⟨U,W,D,E,Lj,HPd,VB,Z⟩:=rV (B.vV uz.pw.d) (nE uz.rw.e) gW.c0 gW.c1 uz ((afp.later j7)) ((Q.later j7)) BS;clear Q mQ gW uz afp xS aV EI Iw afo j7 BS;go_wp2_with fail;go_region_held3 (λw'=>w'.cell? (aD q 0)=some (pV p)/\w'.cell? (aD q 1)=some (pV r))
    (exact⟨D,E⟩)
    (first
     |(go_at_call 22;refine U.mono ?_;rintro e w4 ⟨rfl,tD⟩;have Ex:=tD.symm;clear tD;subst Ex)
     |(go_at_call 23;refine W.mono ?_;rintro e w5 ⟨rfl,I3⟩;have Ld:=I3.symm;clear I3;subst Ld))
   clear U W D E;generalize i.drew=Vd at*;obtain⟨g4',DU,V4,vX,Oa,su,dV⟩:=Lj.aff HPd (λg a b=>by
    rcases a with a|a
    .rcases b with b|b|b
     .exact Lj.ad g (.inr a) (.inl b)
     .exact Lj.ad g (.inr a) (.inr b)
     .exact Lj.oa g b (.inr a)
    .rcases b with b|b
     .rcases RO g b with b|b
      .exact lI g (by omega) (.inl b)
      .omega
     .exact lI g (by omega) (.inr b)) (by omega)
   have B7:=Lj.c2;have q4:=bH Oa;have f4:=ae Oa 2;obtain⟨V5,m⟩:=bQ (V4.setCell ⟨q,2,none⟩ (.slice (some ⟨g4',0,none⟩) (ss.length+1) DU));have OU:V5.heap.size=V4.heap.size:=(by rw [m];simp);rw [<-m] at su dV;have afq:=VB.au dV (λg a b=>Lj.od g b (.inl a)) (λg a b=>by
    rcases a with a|a
    .exact Lj.od g b (.inr a)
    .have:=Ml g a;exact lI g (by omega) (.inr (.inr b)))
   obtain⟨g5',Gj,V6,nD,nH,Fe,ji⟩:=su.afg afq (λg a b=>by
    rcases a with a|a
    .rcases b with b|b|b
     .exact su.ad g (.inl b) (.inr a)
     .exact su.ad g (.inr b) (.inr a)
     .exact su.od g b (.inr a)
    .have a1:=Ml g a;have a2:=G g a;rcases b with b|(b|b)|(b|b)
     .have:=eV.under g (.inl b);omega
     .exact k g (by omega) b
     .omega
     .exact lI g (by omega) (.inr (.inr b))
     .omega) (by have:=o.sl;omega)
   obtain⟨ML,q5,f5,z4⟩:=cM su.c3 (fI nH) (ae nH 3) dV.size;have mE:=(Z.trans dV (λg a=> .inl (f g (.inr (.inr (.inr (.inr a))))))).trans ji (λg a=>by
    rcases a with a|a
    .exact .inl (f g (.inr (.inr (.inr (.inr a)))))
    .exact .inr (by omega))
   have Y:(dJ w (V6.setCell ⟨q,3,none⟩ (.slice (some ⟨g5',0,none⟩) (rs.length+1) Gj)) q A p r s N):=⟨λg=>A g\/w.heap.size<=g,⟨_,_,_,_,_,_,cR,_,_,_,_,_,_,_,_,Fe,o.opened (I:=⟨q0,l0,m0,⟨cz (S.now 0),L, [],false⟩⟩) (R:=⟨k0,T, .slice none 0 0, [],0, .pointer none,⟨cz (S.now 0),L, [],false⟩⟩) (M:=N+2) (by omega) ((t.2 (by trivial) L v).more (by omega)) rfl rfl rfl rfl l.pw.ti l.rw.ui EG,λg a=>(by
    rcases a with a|(a|a)|a|(a|a)|((a|a)|a)
    .rcases Yi g a with a|a
     .exact .inl (f g (.inl a))
     .exact .inr a.1
    .exact .inl (f g (.inr (.inl a)))
    .exact .inr (by omega)
    .rcases RO g a with a|a
     .exact .inl (f g (.inr (.inr (.inl a))))
     .exact .inr (by omega)
    .exact .inl (f g (.inr (.inr (.inr (.inl a)))))
    .exact .inr (by have:=Ml g a;omega)
    .exact .inl (f g (.inr (.inr (.inr (.inr a)))))
    .exact .inr (by omega)
    .exact .inr (by omega)),by rw [dT];show ss.length+1<=_;omega,by omega,by omega⟩,mE,λ_ h=>h⟩
   rw [OU] at nD;rw [m] at nD ML;have G0:=vX;have G1:=nD;clear lI k vX Oa su dV afq nD nH Fe ji mE G RO Ml Yi;go_wp2_with (at_builtin;first|refine bj rfl _ _ 30 rfl v1 (.slice (some (aD Vd.heap.size 0)) 1 1) _ rfl rfl G0 ?_|refine bj rfl _ _ 31 rfl v2 (.slice (some (aD V4.heap.size 0)) 1 1) _ rfl rfl G1 ?_);go_wp2;go_ret;exact⟨rfl,Y⟩
end
end
section
theorem Ll {B:Int} (h:Bytes d):Bytes (ld B d):=by
 unfold ld;split
 .exact LC B
 .exact h
theorem Tx {B:Int}:(ld B d).length=512\/(ld B d).length=d.length:=by
 unfold ld;split
 .exact .inl (uC B)
 .exact .inr rfl
section
variable {w:World} {g:Nat} {c0 c1 c2 c3 c4 c5 c6 c7 c8:Value} {e:TypeId}
theorem iT (h:w.heap[g]? =some (.cells #[c0,c1,c2,c3,c4,c5,c6,c7,c8] e (0,0))):w.cell? (aD g 0)=some c0/\w.cell? (aD g 1)=some c1/\w.cell? (aD g 2)=some c2/\w.cell? (aD g 3)=some c3/\w.cell? (aD g 4)=some c4/\w.cell? (aD g 5)=some c5/\w.cell? (aD g 6)=some c6/\w.cell? (aD g 7)=some c7/\w.cell? (aD g 8)=some c8:=
   ⟨aL h,bD h,bH h,fI h,gz h,rU h,wG h,ri h,Dg h⟩
end
theorem OW {T:TG} {S:DS} {b:Int} (e:CM.Ok T.puts) (a:∀x∈T.puts,x.1<G.y.blocks):(T.put G S b d).2.ended=T.ended/\(T.put G S b d).2.puts.length<=T.puts.length+1/\∀x∈(T.put G S b d).2.puts,x.1<G.y.blocks:=by
 unfold TG.put;split
 .exact⟨rfl,Nat.le_succ _,a⟩
 .rename_i q;split
  .exact⟨rfl,Nat.le_succ _,a⟩
  .split
   .exact⟨rfl,Nat.le_succ _,a⟩
   .split
    .exact⟨rfl,Nat.le_succ _,a⟩
    .obtain⟨_,_,_,f,g⟩:=iK (Decidable.of_not_not q);refine⟨rfl,?_,λx c=>?_⟩
     .show (CM.put T.puts b.toNat d).length<=_;rw [CM.sv e];split <;> omega
     .rcases CM.qL c with rfl|c
      .show b.toNat<_;omega
      .exact a x c
theorem PW.aft {w w':World} {F P:Nat->Prop} {p s c c':Nat} {S:DS} {o:List PI} {r:List PT} {J:PT} {T':TG} (h:PW w F P p s S c o r) (f:o[J.i]? =some I) (u:r[j]? =some J) (nK:w'.heap[J.t]? =some (.cells (zK I.q J.n T') 98 (0,0))) (nc:Ch w' J.n T'.puts) (oZ:∀x∈T'.puts,x.1<I.G.y.blocks) (hd:B.ax w' F p s S c') (k:aa (λg=>F g\/g=J.t\/g=J.n) w w'):PW w' F P p s S c' o (r.set j {J with T:=T'}):=by
 have b:=h.EF f;have e:=h.K6 u f;have bt:ig w' F p s c' I.q I.l I.m S I.G:=⟨hd,b.st.au k (λa=>by rcases a with a|a|a;exact b.nq a;exact e.tq a.symm;exact e.nq a.symm),b.lp.au k (λa=>by rcases a with a|a|a;exact b.nl a;exact e.tl a.symm;exact e.nl a.symm),b.ch.au k (λa=>by rcases a with a|a|a;exact b.nm a;exact e.tm a.symm;exact e.nm a.symm),b.nq,b.nl,b.nm,b.ql,b.qm,b.lm,b.lk,b.bg,b.hs,b.kb⟩;have:=h.on f u rfl rfl (λg d=> .inl d) bt nK nc oZ (k.mono (λg d=>by rcases d with d|d|d;exact .inl d;exact .inr (.inr (.inr (.inr (.inl d))));exact .inr (.inr (.inr (.inr (.inr d))))));rwa [mD f] at this
section
variable {w w':World} {q:Nat} {F P F2 X O A:Nat->Prop} {p r s c N:Nat} {S:DS} {v1 v2 v3 v4:Value} {ss:List PI} {ts:List PT} {rs:List RI} {us:List RJ}
end
end
end Go.Proofs.YtenlkgicpllbhaaGreat
