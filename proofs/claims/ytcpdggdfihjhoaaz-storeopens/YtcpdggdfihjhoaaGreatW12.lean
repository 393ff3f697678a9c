import Derived.Test.YtcpdggdfihjhoaaGreatW01
import Derived.Test.YtcpdggdfihjhoaaGreatW11
set_option maxRecDepth 20000
set_option maxHeartbeats 8000000
set_option linter.all false
namespace Go.Proofs.YtcpdggdfihjhoaaGreat
open Go.Proofs.Tryz
open Go.RowKit Go.Maps
variable {S:DS} {L:LG} {d:List Int} {ls:List LG} {ss:List PI} {ts:List PT} {rs:List RI} {us:List RJ} {vs xs:List Value} {M N c i j k n p s:Nat} {F:Nat->Prop} {I:PI} {R:RI} {G:SG} {α:Type} {e:TypeId} {v:Value} {W w:World}
section
abbrev pV (l:Nat):Value:=pQ l
abbrev UT (p r:Nat) (v1 v2 v3 v4:Value):Array Value:= #[pV p,pV r,v1,v2,v3,v4]
structure W5 (w:World) (q:Nat) (F P F2 X O:Nat->Prop) (p r s:Nat) (S S2:DS) (c:Nat) (v1 v2 v3 v4:Value) (ss:List PI) (ts:List PT) (rs:List RI) (us:List RJ):Prop where
 box:w.heap[q]? =some (.cells (UT p r v1 v2 v3 v4) 35 (0,0))
 oq:O q
 pp:∀g,O g->g<w.heap.size
 pw:PW w F P p s S c ss ts
 rw:RW w F2 X r s S2 rs us
 o1:w.ownsRow 0 53 1 v1 ss.length (ss.map (λI=>pV I.q))
 q1:∀g,v1.ownBlock=some g->O g
 o2:w.ownsRow 0 110 1 v2 rs.length (rs.map (λI=>pV I.k))
 q2:∀g,v2.ownBlock=some g->O g
 o3:w.ownsRow 0 56 1 v3 ts.length (ts.map (λJ=>pV J.t))
 q3:∀g,v3.ownBlock=some g->O g
 o4:w.ownsRow 0 122 1 v4 us.length (us.map (λJ=>pV J.u))
 q4:∀g,v4.ownBlock=some g->O g
 ad:∀g,(F g\/P g)->¬(F2 g\/X g)
 oa:∀g,O g->¬(F g\/P g)
 od:∀g,O g->¬(F2 g\/X g)
structure Lk (S:DS) (s N:Nat) (ss:List PI) (ts:List PT) (rs:List RI) (us:List RJ):Prop where
 sl:rs.length=ss.length
 sg:∀(i:Nat) (I:PI) (R:RI),ss[i]? =some I->rs[i]? =some R->R.G=I.G
 tl:us.length=ts.length
 tg:∀(j:Nat) (J:PT) (K:RJ),ts[j]? =some J->us[j]? =some K->K.i=J.i/\K.T=J.T
 inv:V.Inv S s (ss.map (λI=>I.G.L)) N
 now:∀(i:Nat) (I:PI) (R:RI),ss[i]? =some I->rs[i]? =some R->
    (R.nv= .pointer none/\I.G.busy=false/\∀(j:Nat) (J:PT),ts[j]? =some J->J.i=i->J.T.ended=true)\/
  ∃(j:Nat) (J:PT) (K:RJ),ts[j]? =some J/\us[j]? =some K/\J.i=i/\R.nv=pV K.u/\J.T.ended=!I.G.busy/\∀(j':Nat) (J':PT),ts[j']? =some J'->J'.i=i->j'≠j->J'.T.ended=true
 cs:∀R∈rs,R.ps.length<=N
 ct:∀(i:Nat) (R:RI) (K:RJ),rs[i]? =some R->K∈us->K.i=i->K.T.ended=false->R.ps.length+K.us.length<=N
 rf:S.refused=0
section
variable {w w':World} {q:Nat} {F P F2 X O F' P' X':Nat->Prop} {p r s c c':Nat} {S S2 S':DS} {v1 v2 v3 v4:Value} {ss TL:List PI} {ts Xn:List PT} {rs Bg:List RI} {us KQ:List RJ}
def W5.c0 (h:W5 w q F P F2 X O p r s S S2 c v1 v2 v3 v4 ss ts rs us):w.cell? (aD q 0)=some (pV p):=aM h.box
def W5.c1 (h:W5 w q F P F2 X O p r s S S2 c v1 v2 v3 v4 ss ts rs us):w.cell? (aD q 1)=some (pV r):=bG h.box
def W5.c2 (h:W5 w q F P F2 X O p r s S S2 c v1 v2 v3 v4 ss ts rs us):w.cell? (aD q 2)=some v1:=bK h.box
def W5.c3 (h:W5 w q F P F2 X O p r s S S2 c v1 v2 v3 v4 ss ts rs us):w.cell? (aD q 3)=some v2:=fQ h.box
def W5.c4 (h:W5 w q F P F2 X O p r s S S2 c v1 v2 v3 v4 ss ts rs us):w.cell? (aD q 4)=some v3:=gH h.box
def W5.c5 (h:W5 w q F P F2 X O p r s S S2 c v1 v2 v3 v4 ss ts rs us):w.cell? (aD q 5)=some v4:=sk h.box
def W5.aw {Z:Nat->Prop} (h:W5 w q F P F2 X O p r s S S2 c v1 v2 v3 v4 ss ts rs us) (b:aa Z w w') (d:∀g,(F g\/P g\/F2 g\/X g\/O g)->¬Z g):W5 w' q F P F2 X O p r s S S2 c v1 v2 v3 v4 ss ts rs us:=by
 have f:=λg a=>d g (.inr (.inr (.inr (.inr a))));exact⟨(b.block q (h.pp q h.oq) (f q h.oq)).trans h.box,h.oq,λg a=>i6 (h.pp g a) b.size,h.pw.aw b (λg a=>d g (.inl a)) (λg a=>d g (.inr (.inl a))),h.rw.aw b (λg a=>d g (.inr (.inr (.inl a)))) (λg a=>d g (.inr (.inr (.inr (.inl a))))),aF h.o1 (λg e=>b.block g (h.pp g (h.q1 g e)) (f g (h.q1 g e))),h.q1,aF h.o2 (λg e=>b.block g (h.pp g (h.q2 g e)) (f g (h.q2 g e))),h.q2,aF h.o3 (λg e=>b.block g (h.pp g (h.q3 g e)) (f g (h.q3 g e))),h.q3,aF h.o4 (λg e=>b.block g (h.pp g (h.q4 g e)) (f g (h.q4 g e))),h.q4,h.ad,h.oa,h.od⟩
def W5.later (h:W5 w q F P F2 X O p r s S S2 c v1 v2 v3 v4 ss ts rs us) (a:bW w w'):W5 w' q F P F2 X O p r s S S2 c v1 v2 v3 v4 ss ts rs us:=h.aw (aa.ah (λ_=>False) a) (λ_ _ h=>h)
def W5.prog (h:W5 w q F P F2 X O p r s S S2 c v1 v2 v3 v4 ss ts rs us) (i:PW w' F' P p s S' c' TL Xn) (d:aa (λg=>F g\/P g) w w') (m:∀g,F' g->more F w w' g) (j:TL.map (λI=>pV I.q)=ss.map (λI=>pV I.q)) (k:Xn.map (λJ=>pV J.t)=ts.map (λJ=>pV J.t)):W5 w' q F' P F2 X O p r s S' S2 c' v1 v2 v3 v4 TL Xn rs us:=by
 have f:=h.oa;have n:TL.length=ss.length:=by have:=congrArg List.length j;simpa using this
 have o:Xn.length=ts.length:=by have:=congrArg List.length k;simpa using this
 have l:=λg a=>(m g a).imp id (λh=>h.1);refine⟨(d.block q (h.pp q h.oq) (f q h.oq)).trans h.box,h.oq,λg a=>i6 (h.pp g a) d.size,i,h.rw.aw d (λg a b=>h.ad g b (.inl a)) (λg a b=>h.ad g b (.inr a)),by rw [n,j];exact aF h.o1 (λg e=>d.block g (h.pp g (h.q1 g e)) (f g (h.q1 g e))),h.q1,aF h.o2 (λg e=>d.block g (h.pp g (h.q2 g e)) (f g (h.q2 g e))),h.q2,by rw [o,k];exact aF h.o3 (λg e=>d.block g (h.pp g (h.q3 g e)) (f g (h.q3 g e))),h.q3,aF h.o4 (λg e=>d.block g (h.pp g (h.q4 g e)) (f g (h.q4 g e))),h.q4,λg a b=>?_,λg a b=>?_,h.od⟩
 .rcases a with a|a
  .rcases l g a with a|a
   .exact h.ad g (.inl a) b
   .rcases b with b|b
    .have:=h.rw.e.lt g b;omega
    .have:=h.rw.lt g b;omega
  .exact h.ad g (.inr a) b
 .rcases b with b|b
  .rcases l g b with b|b
   .exact h.oa g a (.inl b)
   .have:=h.pp g a;omega
  .exact h.oa g a (.inr b)
def W5.doc {i:Nat->Prop} (h:W5 w q F P F2 X O p r s S S2 c v1 v2 v3 v4 ss ts rs us) (m:RW w' i X' r s S' Bg KQ) (j:aa (λg=>F2 g\/X g) w w') (x:∀g,i g->more F2 w w' g) (y:∀g,X' g->more X w w' g) (n:Bg.map (λI=>pV I.k)=rs.map (λI=>pV I.k)) (o:KQ.map (λJ=>pV J.u)=us.map (λJ=>pV J.u)):W5 w' q F P i X' O p r s S S' c v1 v2 v3 v4 ss ts Bg KQ:=by
 have l:=h.od;have z:Bg.length=rs.length:=by have:=congrArg List.length n;simpa using this
 have A:KQ.length=us.length:=by have:=congrArg List.length o;simpa using this
 have t:=λg a=>(x g a).imp id (λh=>h.1);have v:=λg a=>(y g a).imp id (λh=>h.1);refine⟨(j.block q (h.pp q h.oq) (l q h.oq)).trans h.box,h.oq,λg a=>i6 (h.pp g a) j.size,h.pw.aw j (λg a f=>h.ad g (.inl a) f) (λg a f=>h.ad g (.inr a) f),m,aF h.o1 (λg e=>j.block g (h.pp g (h.q1 g e)) (l g (h.q1 g e))),h.q1,by rw [z,n];exact aF h.o2 (λg e=>j.block g (h.pp g (h.q2 g e)) (l g (h.q2 g e))),h.q2,aF h.o3 (λg e=>j.block g (h.pp g (h.q3 g e)) (l g (h.q3 g e))),h.q3,by rw [A,o];exact aF h.o4 (λg e=>j.block g (h.pp g (h.q4 g e)) (l g (h.q4 g e))),h.q4,λg a f=>?_,h.oa,λg a f=>?_⟩
 .have bq:=a.elim (λb=>h.pw.d.lt g b) (λb=>h.pw.lt g b);rcases f with f|f
  .exact(t g f).elim (λb=>h.ad g a (.inl b)) (λb=>by omega)
  .exact(v g f).elim (λb=>h.ad g a (.inr b)) (λb=>by omega)
 .have bq:=h.pp g a;rcases f with f|f
  .exact(t g f).elim (λb=>h.od g a (.inl b)) (λb=>by omega)
  .exact(v g f).elim (λb=>h.od g a (.inr b)) (λb=>by omega)
def vV {w:World} {x:Value} (h:w.ownsRow 0 e 1 v n xs) (b:xs[i]? =some x):∃g cp,v= .slice (some (aD g 0)) n cp/\w.cell? (aD g i)=some x:=by
 have c:=h;obtain⟨d,⟨rfl,h0⟩|⟨g,a,cur,rfl,_⟩⟩:=h
 .rw [h0] at d;have:xs= []:=List.length_eq_zero_iff.1 (by omega);rw [this] at b;cases b
 .refine⟨g,a,rfl,?_⟩;have:=c.cells (g:=g) rfl i _ b;rwa [aN,Nat.zero_add] at this
end
end
section
def bk (n:Nat) (x:Int):Int:=if n=0 then-1 else ((n-1-x.toNat%n:Nat):Int)
def TM (h:0<n) (x:Int):∃i:Nat,i<n/\bk n x=(i:Int):=⟨n-1-x.toNat%n,by omega,by unfold bk;rw [aB (by omega)]⟩
def AI (w:World) (n:Nat) (x:Int) (j:x<=9223372036854775807) (i:n<=140737488355328):
  Calls prog 73 #[iV (n:Int),iV x] w λe w'=>e= .returned (iV (bk n x))/\w'=w:=by
 by_cases h0:n=0
 .subst h0;go_in;go_wp2;go_ret;exact⟨rfl,rfl⟩
 .have f:¬(n:Int)=0:=by omega
  have g:((n:Int) == 0)=false:=by rw [fJ];omega
  have tA:bk n x=((n-1-x.toNat%n:Nat):Int):=by unfold bk;rw [aB h0]
  rw [tA];clear tA;by_cases k:x<0
  .have a:(0:Int).tmod (n:Int)=0:=(by simp);have b:x.toNat%n=0:=(by rw [show x.toNat=0 by omega];exact Nat.zero_mod n);rw [b];clear b;go_in;go_wp2;go_ret;exact⟨by congr 1;congr 1;first|omega|(simp;omega),rfl⟩
  .obtain⟨y,rfl⟩:∃y:Nat,x=(y:Int):=⟨x.toNat,by omega⟩;rw [Int.toNat_natCast];have a:(y:Int).tmod (n:Int)=((y%n:Nat):Int):=(by rw [Int.tmod_eq_emod_of_nonneg (by omega),<-Int.natCast_emod]);have c:y%n<n:=Nat.mod_lt _ (by omega);have d:IntKind.i64.wrap ((y%n:Nat):Int)=((y%n:Nat):Int):=(by rw [IntKind.wrap_i64];omega);obtain⟨m,B9⟩:=bQ (y%n);rw [<-B9] at a c d⊢;clear B9;go_in;go_wp2;go_ret;exact⟨by congr 1;congr 1;first|omega|(simp;omega),rfl⟩
def E5 (w:World) (q:Nat) (A:Nat->Prop) (p r s N:Nat):Prop:=
 ∃(F P F2 X O:Nat->Prop) (S:DS) (c:Nat) (v1 v2 v3 v4:Value) (ss:List PI) (ts:List PT) (rs:List RI) (us:List RJ),W5 w q F P F2 X O p r s S S c v1 v2 v3 v4 ss ts rs us/\Lk S s N ss ts rs us/\(∀g,(F g\/P g\/F2 g\/X g\/O g)->A g)/\ss.length<=N/\ts.length<=N/\c<=5000*N
def ec (w w':World) (q:Nat) (A:Nat->Prop) (p r s N:Nat):Prop:=∃A',E5 w' q A' p r s (N+2)/\aa A w w'/\∀g,A' g->A g\/w.heap.size<=g
section
variable {w w':World} {q:Nat} {F P F2 X O A:Nat->Prop} {p r s c N:Nat} {S:DS} {v1 v2 v3 v4:Value} {ss:List PI} {ts:List PT} {rs:List RI} {us:List RJ}
def V.Inv.more {t a:Nat} (h:V.Inv S s ls t) (b:t<=a):V.Inv S s ls a:=⟨h.ok,h.qf,h.p6,h.p2,h.l0,by have:=h.lt;omega,h.ol,h.li,h.al⟩
def Lk.more (h:Lk S s N ss ts rs us) (a:N<=M):Lk S s M ss ts rs us:=⟨h.sl,h.sg,h.tl,h.tg,h.inv.more a,h.now,λR f=>j4 (h.cs R f) a,λi R K b c d e=>j4 (h.ct i R K b c d e) a,h.rf⟩
def ec.idle (h:W5 w' q F P F2 X O p r s S S c v1 v2 v3 v4 ss ts rs us) (d:Lk S s N ss ts rs us) (a:∀g,(F g\/P g\/F2 g\/X g\/O g)->A g) (e:ss.length<=N) (f:ts.length<=N) (i:c<=5000*N) (b:bW w w'):ec w w' q A p r s N:=
   ⟨A,⟨F,P,F2,X,O,S,c,v1,v2,v3,v4,ss,ts,rs,us,h,d.more (by omega),a,by omega,by omega,by omega⟩,aa.ah _ b,λ_ h=> .inl h⟩
end
end
section
section
variable {w w':World} {q:Nat} {F P F2 X O A:Nat->Prop} {p r s c N:Nat} {S:DS} {v1 v2 v3 v4:Value} {ss:List PI} {ts:List PT} {rs:List RI} {us:List RJ}
def AJ {w:World} (h:w.ownsRow 0 e 1 v n xs):∃a cp,v= .slice a n cp:=by
 obtain⟨_,⟨rfl,h0⟩|⟨g,b,cur,rfl,_⟩⟩:=h
 .exact⟨none,0,by rw [h0]⟩
 .exact⟨_,_,rfl⟩
def W5.tx (h:W5 w q F P F2 X O p r s S S c v1 v2 v3 v4 ss ts rs us) (a:Lk S s N ss ts rs us) (d:j<ts.length):∃J K I R,ts[j]? =some J/\us[j]? =some K/\ss[J.i]? =some I/\rs[J.i]? =some R/\K.i=J.i/\K.T=J.T/\R.G=I.G:=by
 obtain⟨I,b,_⟩:=h.pw.tx ts[j] (List.getElem_mem d);have f:us[j]? =some (us[j]'(by rw [a.tl];exact d)):=List.getElem?_eq_getElem _;have e:=List.getElem?_eq_getElem d;have g:rs[ts[j].i]? =some (rs[ts[j].i]'(by rw [a.sl];exact((mP.1 b).1))):=List.getElem?_eq_getElem _;obtain⟨k,l⟩:=a.tg j _ _ e f;exact⟨_,_,I,_,e,f,b,g,k,l,a.sg _ _ _ b g⟩
end
end
section
section
variable {w w':World} {F P F2 X:Nat->Prop} {p r s c N q l m t n i j:Nat} {S:DS} {G:SG} {T T':TG} {ss:List PI} {ts:List PT} {rs:List RI} {us:List RJ} {I:PI} {R:RI} {J J':PT} {K K':RJ}
def it.abk (h:it w F p s c q l m S G) (b:mH w F q l m t n G T) (e:aa (λg=>g=t\/g=n) w w'):it w' F p s c q l m S G:=
   ⟨h.d.aw e (λg f a=>by rcases a with rfl|rfl;exact b.nt f;exact b.nn f),h.st.aw e (λa=>by rcases a with a|a;exact b.tq a.symm;exact b.nq a.symm),h.lp.aw e (λa=>by rcases a with a|a;exact b.tl a.symm;exact b.nl a.symm),h.ch.aw e (λa=>by rcases a with a|a;exact b.tm a.symm;exact b.nm a.symm),h.nq,h.nl,h.nm,h.ql,h.qm,h.lm,h.lk,h.bg,h.hs,h.kb⟩
def mN {l:List α} {i:Nat} {a:α} (h:l[i]? =some a):l.set i a=l:=by
 apply List.ext_getElem?;intro n;by_cases e:n=i
 .subst e;rw [List.getElem?_set_self (mP.1 h).1,h]
 .rw [List.getElem?_set_ne (λh=>e h.symm)]
def Lk.Lr (h:Lk S s N ss ts rs us) (d:ts[j]? =some J) (f:us[j]? =some K) (w:J'.i=J.i) (E:K'.i=K.i) (O:K'.u=K.u) (F:K'.T=J'.T) (x:J'.T.ended=J.T.ended) (Z:K'.us.length<=K.us.length+1):Lk S s (N+1) ss (ts.set j J') rs (us.set j K'):=by
 obtain⟨U,W⟩:=h.tg j J K d f;refine⟨h.sl,h.sg,by rw [List.length_set,List.length_set];exact h.tl,λn A B a l=>?_,h.inv.more (by omega),λi I R X g=>?_,λR g=>by have:=h.cs R g;omega,λi R B g l k G=>?_,h.rf⟩
 .rcases dr d a with ⟨P,rfl⟩|⟨H,a⟩<;> rcases dr f l with ⟨Q,rfl⟩|⟨L,l⟩
  .exact⟨by rw [E,w,U],F⟩
  .exact absurd P L
  .exact absurd Q H
  .exact h.tg n A B a l
 .have b:∀(n:Nat) (A:PT),(ts.set j J')[n]? =some A->∃c,ts[n]? =some c/\c.i=A.i/\c.T.ended=A.T.ended:=λn A a=>by
   rcases dr d a with ⟨rfl,rfl⟩|⟨H,a⟩
   .exact⟨J,d,w.symm,x.symm⟩
   .exact⟨A,a,rfl,rfl⟩
  rcases h.now i I R X g with ⟨o,p,q⟩|⟨n,A,B,o,p,q,C,D,M⟩
  .refine .inl ⟨o,p,λn A a k=>?_⟩;obtain⟨c,r,t,v⟩:=b n A a;rw [<-v];exact q n c r (by rw [t];exact k)
  .have rest:∀(m:Nat) (A':PT),(ts.set j J')[m]? =some A'->A'.i=i->m≠n->A'.T.ended=true:=λm A' y k dM=>by
    obtain⟨c,r,t,v⟩:=b m A' y;rw [<-v];exact M m c r (by rw [t];exact k) dM
   by_cases e:n=j
   .subst e;obtain rfl:A=J:=Option.some.inj (o.symm.trans d);obtain rfl:B=K:=Option.some.inj (p.symm.trans f);exact .inr ⟨n,J',K',List.getElem?_set_self ((mP.1 d).1),List.getElem?_set_self ((mP.1 f).1),by rw [w];exact q,by rw [O];exact C,by rw [x];exact D,rest⟩
   .exact .inr ⟨n,A,B,by rw [List.getElem?_set_ne (λh=>e h.symm)];exact o,by rw [List.getElem?_set_ne (λh=>e h.symm)];exact p,q,C,D,rest⟩
 .obtain⟨n,Y⟩:=List.mem_iff_getElem?.1 l;rcases dr f Y with ⟨_,rfl⟩|⟨L,z⟩
  .have:=h.ct i R K g (gA f) (by rw [<-E];exact k) (by rw [W,<-x,<-F];exact G);omega
  .have:=h.ct i R B g (gA z) k G;omega
def PW.Lr (h:PW w F P p s S c ss ts) (b:ss[J.i]? =some I) (d:ts[j]? =some J) (nU:w'.heap[J.t]? =some (.cells (BO I.q J.n T') 98 (0,0))) (nr:Ch w' J.n T'.puts) (ph:∀x∈T'.puts,x.1<I.G.y.blocks) (e:aa (λg=>g=J.t\/g=J.n) w w'):PW w' F P p s S c ss (ts.set j {J with T:=T'}):=by
 have:=h.on b d rfl rfl (λg a=> .inl a) ((h.EY b).abk (h.Lp d b) e) nU nr ph (e.mono (λg a=>by rcases a with a|a;exact .inr (.inr (.inr (.inr (.inl a))));exact .inr (.inr (.inr (.inr (.inr a))))));rwa [mN b] at this
end
end
section
def gg {f:α->Value} {l:List α} {a b:α} (c:l[i]? =some a) (h:f b=f a):(l.set i b).map f=l.map f:=by
 rw [List.map_set];apply List.ext_getElem?;intro n;by_cases e:n=i
 .subst e;rw [List.getElem?_set_self (by simpa using ((mP.1 c).1)),Bk,c,h];rfl
 .rw [List.getElem?_set_ne (λh=>e h.symm)]
def RW.Lr {w w':World} {F X X':Nat->Prop} {r s:Nat} {S:DS} {rs:List RI} {us:List RJ} {K K':RJ} (h:RW w F X r s S rs us) (l:rs[K.i]? =some R) (o:us[j]? =some K) (E:K'.u=K.u) (t:K'.i=K.i) (z:∀g,X g->X' g) (m:∀g,X' g->more X w w' g) (nU:oj w' X' R.k K'.u R.G K'.T K'.tv K'.us) (n:K'.tv.ownBlock=K.tv.ownBlock\/∀g,K'.tv.ownBlock=some g->w.heap.size<=g) (v:aa (λg=>g=K.u\/K.tv.ownBlock=some g) w w') (bq:∀g,X' g->g<w'.heap.size):RW w' F X' r s S rs (us.set j K'):=by
 have f:=h.jS l;have d:=h.po o l;have B5:∀g,X' g->¬F g:=λg b a=>by
  rcases m g b with y|y
  .exact h.fM g y a
  .have:=h.e.lt g a;omega
 have bw:iL w' F X' r s S R.k R.kl R.G R.pv R.ps R.hm R.nv:=by
  refine f.other v z B5 bq (λa=>?_) (λa=>?_) (λg e a=>?_) (λg c H b A a=>?_) (.inl rfl)
  .rcases a with a|a
   .exact cY f.st d.tx (by decide) a
   .exact d.pl.ne a f.st (by decide) rfl
  .rcases a with a|a
   .exact cY f.lp d.tx (by decide) a
   .exact d.pl.ne a f.lp (by decide) rfl
  .rcases a with a|a
   .exact f.pl.ne e d.tx (by decide) a
   .exact h.r3 R (gA l) K (gA o) g e a
  .have BA:=A;obtain⟨cur,C,_⟩:=BA;rcases a with a|a
   .exact A.ne d.tx (by decide) a
   .exact d.pl.ne a C (by decide) rfl
 have D:=h.e.aw v (λg b a=>by
  rcases a with a|a
  .exact h.fM g (a▸d.xt) b
  .exact h.fM g (d.pl.row g a) b)
 have:=h.on (I':=R) (J':=K') l o rfl rfl rfl rfl E t D z m bw nU (.inl rfl) n (λg x p=>by
  rcases n with q|q
  .rw [q] at p;exact h.r3 R (gA l) K (gA o) g x p
  .have:=q g p;have:=f.pl.rlt g x;omega) (v.mono (λg b=>by rcases b with b|b;exact .inr (.inr (.inr (.inl b)));exact .inr (.inr (.inr (.inr (.inr b)))))) (.inl rfl)
 rwa [mN l] at this
section
variable {w w':World} {q:Nat} {F P F2 X O A:Nat->Prop} {p r s c N:Nat} {S:DS} {v1 v2 v3 v4:Value} {ss:List PI} {ts:List PT} {rs:List RI} {us:List RJ}
end
end
section
section
variable {s N M i j:Nat} {S S':DS} {ss:List PI} {ts:List PT} {rs:List RI} {us:List RJ} {I I':PI} {R R':RI} {J J':PT} {K K':RJ}
def Lk.upd (h:Lk S s N ss ts rs us) (Q:ss[i]? =some I) (r:rs[i]? =some R) (f:ts[j]? =some J) (U:us[j]? =some K) (PX:J.i=i) (e1:J'.i=J.i) (e2:K'.i=K.i) (e3:K'.u=K.u) (e4:K'.T=J'.T) (e5:R'.G=I'.G) (e6:R'.nv=R.nv)
    (lJ:(J'.T.ended=J.T.ended/\I'.G.busy=I.G.busy)\/(J.T.ended=false/\J'.T.ended=true/\I'.G.busy=false)) (hM:N<=M) (W:V.Inv S' s ((ss.set i I').map (λI=>I.G.L)) M) (ou:R'.ps.length<=M) (Wf:J'.T.ended=false->R'.ps.length+K'.us.length<=M) (DG:R'.ps=R.ps\/J.T.ended=false) (EZ:S'.refused=S.refused):
  Lk S' s M (ss.set i I') (ts.set j J') (rs.set i R') (us.set j K'):=by
 have K6:=(mP.1 Q).1;have rJ:=(mP.1 r).1;obtain⟨g1,g2⟩:=h.tg j J K f U;have O:∀(n:Nat) (A:PT),(ts.set j J')[n]? =some A->n≠j->ts[n]? =some A:=λn A d dM=>by
  rcases dr f d with ⟨e,_⟩|⟨_,d⟩
  .exact absurd e dM
  .exact d
 refine⟨by rw [List.length_set,List.length_set];exact h.sl,λn A B d c=>?_,by rw [List.length_set,List.length_set];exact h.tl,λn A B d c=>?_,W,λn A B d c=>?_,λB c=>?_,λn B C c k a Z=>?_,EZ.trans h.rf⟩
 .rcases dr Q d with ⟨E,rfl⟩|⟨z,d⟩<;> rcases dr r c with ⟨P,rfl⟩|⟨v,c⟩
  .exact e5
  .exact absurd E v
  .exact absurd P z
  .exact h.sg n A B d c
 .rcases dr f d with ⟨E,rfl⟩|⟨z,d⟩<;> rcases dr U c with ⟨P,rfl⟩|⟨v,c⟩
  .exact⟨by rw [e2,e1,g1],e4⟩
  .exact absurd E v
  .exact absurd P z
  .exact h.tg n A B d c
 .rcases dr Q d with ⟨E,rfl⟩|⟨z,hA'⟩<;> rcases dr r c with ⟨P,rfl⟩|⟨v,x⟩
  .subst E;rcases h.now n I R Q r with ⟨p,q,b⟩|⟨m,C,D,p,q,b,F,H,t⟩
   .have l:=b j J f PX;rcases lJ with ⟨g,w⟩|⟨g,_,_⟩
    .refine .inl ⟨e6.trans p,w.trans q,λm C k a=>?_⟩;rcases dr f k with ⟨_,rfl⟩|⟨_,k⟩
     .rw [g];exact l
     .exact b m C k a
    .rw [l] at g;cases g
   .by_cases e:m=j
    .subst e;obtain rfl:C=J:=Option.some.inj (p.symm.trans f);obtain rfl:D=K:=Option.some.inj (q.symm.trans U);refine .inr ⟨m,J',K',List.getElem?_set_self ((mP.1 f).1),List.getElem?_set_self ((mP.1 U).1),by rw [e1];exact b,by rw [e6,e3];exact F,?_,λy A' Ls a dM=>t y A' (O y A' Ls dM) a dM⟩;rcases lJ with ⟨g,w⟩|⟨_,w,b3⟩
     .rw [g,w];exact H
     .rw [w,b3];rfl
    .have l:=t j J f PX (λh=>e h.symm);rcases lJ with ⟨g,w⟩|⟨g,_,_⟩
     .refine .inr ⟨m,C,D,by rw [List.getElem?_set_ne (λh=>e h.symm)];exact p,by rw [List.getElem?_set_ne (λh=>e h.symm)];exact q,b,e6.trans F,by rw [w];exact H,λy A' Ls a dM=>?_⟩;rcases dr f Ls with ⟨_,rfl⟩|⟨_,Ls⟩
      .rw [g];exact l
      .exact t y A' Ls a dM
     .rw [l] at g;cases g
  .exact absurd E v
  .exact absurd P z
  .have Y:∀(m:Nat) (C:PT),(ts.set j J')[m]? =some C->C.i=n->ts[m]? =some C:=λm C k a=>by
    rcases dr f k with ⟨_,rfl⟩|⟨_,k⟩
    .rw [e1,PX] at a;exact absurd a.symm z
    .exact k
   rcases h.now n A B hA' x with ⟨p,q,b⟩|⟨m,C,D,p,q,b,F,H,t⟩
   .exact .inl ⟨p,q,λm C k a=>b m C (Y m C k a) a⟩
   .have dM:m≠j:=λe=>by
     subst e;obtain rfl:C=J:=Option.some.inj (p.symm.trans f);rw [PX] at b;exact z b.symm
    exact .inr ⟨m,C,D,by rw [List.getElem?_set_ne (λh=>dM h.symm)];exact p,by rw [List.getElem?_set_ne (λh=>dM h.symm)];exact q,b,F,H,λy A' Ls a X=>t y A' (Y y A' Ls a) a X⟩
 .obtain⟨n,X⟩:=List.mem_iff_getElem?.1 c;rcases dr r X with ⟨_,rfl⟩|⟨_,X⟩
  .exact ou
  .have:=h.cs B (gA X);omega
 .obtain⟨m,hm⟩:=List.mem_iff_getElem?.1 k;rcases dr U hm with ⟨ek,rfl⟩|⟨nk,hm'⟩
  .rcases dr r c with ⟨_,rfl⟩|⟨v,_⟩
   .exact Wf (by rw [<-e4];exact Z)
   .rw [e2,g1,PX] at a;exact absurd a.symm v
  .rcases dr r c with ⟨rfl,rfl⟩|⟨v,x⟩
   .rcases DG with DG|DG
    .have:=h.ct n R C r (gA hm') a Z;rw [DG];omega
    .exfalso;have Cc:m<ts.length:=(by rw [<-h.tl];exact(mP.1 hm').1);have hD:=List.getElem?_eq_getElem Cc;obtain⟨f1,f2⟩:=h.tg m _ C hD hm';have hDe:ts[m].T.ended=false:=(by rw [<-f2];exact Z);have hDi:ts[m].i=n:=(by rw [<-f1];exact a);rcases h.now n I R Q r with ⟨_,_,b⟩|⟨o,A,B,p,q,b,F,H,t⟩
     .have:=b j J f PX;rw [DG] at this;cases this
     .by_cases eo:o=j
      .subst eo;have:=t m _ hD hDi nk;rw [hDe] at this;cases this
      .have:=t j J f PX (λh=>eo h.symm);rw [DG] at this;cases this
   .have:=h.ct n B C x (gA hm') a Z;omega
end
end
section
def RW.reG {w:World} {F X:Nat->Prop} {r s:Nat} {S:DS} {rs:List RI} {us:List RJ} {G':SG} (h:RW w F X r s S rs us) (m:rs[i]? =some R) (p:G'.y=R.G.y) (t:G'.L=R.G.L) (H:G'.ov=R.G.ov):RW w F X r s S (rs.set i {R with G:=G'}) us:=by
 have d:=h.jS m;have o:∀{n:Nat} {A:RI},(rs.set i {R with G:=G'})[n]? =some A->∃q,rs[n]? =some q/\q.pv=A.pv:=λ{n A} j=>by
  rcases dr m j with ⟨rfl,rfl⟩|⟨_,j⟩
  .exact⟨R,m,rfl⟩
  .exact⟨A,j,rfl⟩
 refine⟨h.e,h.fM,h.lt,λA D=>?_,λK O=>?_,by rw [ng (f:=λx:RI=>x.k) (b:={R with G:=G'}) m rfl];exact h.nk,by rw [ng (f:=λx:RI=>x.kl) (b:={R with G:=G'}) m rfl];exact h.nl,h.nu,λa b A B P Q oJ g z C=>?_,h.r2,λA D B N g z C=>?_⟩
 .obtain⟨n,j⟩:=List.mem_iff_getElem?.1 D;rcases dr m j with ⟨_,rfl⟩|⟨_,j⟩
  .exact⟨by show lq _ _ _ _ G'.y _ _ _;rw [p];exact d.st,by show cK _ _ _ G'.L;rw [t];exact d.lp,d.pl,d.xk,d.xl,d.fM,d.lt,by show G'.L.Ok s;rw [t];exact d.lk,by show G'.L.begun=true;rw [t];exact d.bg,by show G'.y.home+G'.y.blocks<=s;rw [p];exact d.hs,by show G'.L.f+2+G'.L.n<=G'.y.home;rw [t,p];exact d.lh,by show G'.ov=_;rw [H];exact d.ov,d.hm,by show∀x∈R.ps,x.1<G'.y.blocks;rw [p];exact d.kb,by show G'.L.dead S=false->∀b,b<G'.y.blocks->CM.get G'.ov b=none->∀c,jC R.ps b=some c->S.now (G'.y.home+b)=c;rw [t,p,H];exact d.un⟩
  .exact h.jS j
 .obtain⟨M,E,l⟩:=h.tx K O;by_cases e:K.i=i
  .rw [e,m] at E;cases E;exact⟨{R with G:=G'},by rw [e];exact List.getElem?_set_self ((mP.1 m).1),⟨l.tx,l.xt,l.pl,l.nd,l.pu,by show∀x∈K.us,x.1<G'.y.blocks;rw [p];exact l.kb,l.Em⟩⟩
  .exact⟨M,by rw [List.getElem?_set_ne (λh=>e h.symm)];exact E,l⟩
 .obtain⟨q,u,v⟩:=o P;obtain⟨T,I,J⟩:=o Q;exact h.r1 _ _ _ _ u I oJ g (v▸z) (J▸C)
 .obtain⟨n,j⟩:=List.mem_iff_getElem?.1 D;obtain⟨q,u,v⟩:=o j;exact h.r3 q (gA u) B N g (v▸z) C
section
variable {w w':World} {q:Nat} {F P F2 X O A:Nat->Prop} {p r s c N:Nat} {S:DS} {v1 v2 v3 v4:Value} {ss:List PI} {ts:List PT} {rs:List RI} {us:List RJ}
end
end
section
section
variable {w w':World} {q:Nat} {F P F2 X O A:Nat->Prop} {p r s c N:Nat} {S:DS} {v1 v2 v3 v4:Value} {ss:List PI} {ts:List PT} {rs:List RI} {us:List RJ}
def AK (h:W5 w q F P F2 X O p r s S S c v1 v2 v3 v4 ss ts rs us) (Q:Lk S s N ss ts rs us) (_hA:∀g,(F g\/P g\/F2 g\/X g\/O g)->A g) (mt:∀g,A g->g<w.heap.size) (h1:ss.length<=N) (Z:ts.length<=N) (_hc:c<=5000*N) (hN:N<=3999999990000) (b f n:Int) (t:Option Addr) (v u:Nat) (H:Option Addr) (K J:Nat) (x y z:Int) (AL:b<=9223372036854775807):
  Calls prog 31 #[pV q, .agg (j3 12 b f n t v u H K J x y z)] w λe w'=>e= .returned (.bool true)/\bW w w':=by
 obtain⟨W,d⟩:=bQ (w.alloc (.cells (j3 12 b f n t v u H K J x y z) 41));have EU:bW w W:=by rw [d];exact(bi w.heap.size w).alloc (bS _) _
 have B4:W.heap[w.heap.size]? =some (.cells (j3 12 b f n t v u H K J x y z) 41 (0,0)):=by rw [d];exact heap_alloc_new _ _
 have Ie:W.heap.size=w.heap.size+1:=by rw [d,World.size_alloc]
 have uo:¬A w.heap.size:=λhx=>by have:=mt _ hx;omega
 obtain⟨a3,c3,E⟩:=AJ h.o1;have TN:=h.later EU;have d0:W.cell? (aD w.heap.size 0)=some (iV 12):=aM B4;have d1:W.cell? (aD w.heap.size 1)=some (iV b):=bG B4;have l:=TN.c2;have tA:=λk=>AI (W.drewN k) ss.length b AL (by omega);obtain⟨L,o,C3,MJ⟩:=cO TN Q EU B4;rw [E] at l;clear h Q TN EU B4;go_in;go_wp2_with fail;rw [<-d];clear d;go_quiet (first|(go_at_call 73;refine Calls.quiet_of_same (tA _)));rename_i nq _;have m:bW W (W.drewN nq):=below_drewN (bi _ _) nq;have fP:=(L.later m);have uN:=(C3.trans (m.mono (by omega)));have YC:(W.drewN nq).heap.size=w.heap.size+1:=Ie;have UU:=((m.block w.heap.size (by omega)).trans MJ);clear L C3 MJ tA m d0 d1 l Ie;generalize W.drewN nq=V at*;have dV0:V.cell? (aD w.heap.size 0)=some (iV 12):=aM UU;have dV2:V.cell? (aD w.heap.size 2)=some (iV f):=bK UU;have l:=fP.c2;have e5:=fP.c3;by_cases T:ss.length=0
 .have fO:bk ss.length b= -1:=by unfold bk;rw [aG T]
  rw [fO];go_wp2;go_ret;exact⟨rfl,uN⟩
 .obtain⟨j,M,YJ⟩:=TM (show 0<ss.length by omega) b;rw [YJ];have Zr:¬(j:Int)<0:=by omega
  have YY:(j:Int)<(ss.length:Int):=by omega
  obtain⟨I,C⟩:∃I,ss[j]? =some I:=⟨ss[j],List.getElem?_eq_getElem M⟩;obtain⟨R,D⟩:∃R,rs[j]? =some R:=⟨rs[j]'(by rw [o.sl];exact M),List.getElem?_eq_getElem _⟩;obtain⟨g3,cp3,TO,t3⟩:=vV (i:=j) fP.o1 (by rw [Bk,C];rfl);obtain⟨g4,cp4,TP,t4⟩:=vV (i:=j) fP.o2 (by rw [Bk,D];rfl);rw [TO] at l;rw [TP,o.sl] at e5;clear YJ T;have OI:=(λ(a:World) (hb:bW V a)=>((fP.later hb).rw.jS D).st);go_wp2_with fail;refine(KO (fP.pw.EY C).st).mono ?_;rintro e a ⟨rfl,bd⟩;have bo:=OI a bd;rw [(o.sg j I R C D)] at bo;have iq:=aJ a (.cells #[.int .i64 (I.G.y.log:Int), .int .i64 (I.G.y.home:Int), .int .i64 (I.G.y.blocks:Int), .int .i64 (I.G.y.nodes:Int), .int .i64 (I.G.y.data:Int)] 86);have Mf:=heap_alloc_new a (.cells #[.int .i64 (I.G.y.log:Int), .int .i64 (I.G.y.home:Int), .int .i64 (I.G.y.blocks:Int), .int .i64 (I.G.y.nodes:Int), .int .i64 (I.G.y.data:Int)] 86);have fK:=bo.later iq;have dP:=(bd.trans (iq.mono bd.size));clear bd bo;go_wp2_with fail;generalize a.alloc (.cells #[.int .i64 (I.G.y.log:Int), .int .i64 (I.G.y.home:Int), .int .i64 (I.G.y.blocks:Int), .int .i64 (I.G.y.nodes:Int), .int .i64 (I.G.y.data:Int)] 86)=Y at*;have U:((λw':World=>w'.cell? (aD a.heap.size 0)=some (iV (I.G.y.log:Int))/\w'.cell? (aD a.heap.size 1)=some (iV (I.G.y.home:Int))/\w'.cell? (aD a.heap.size 2)=some (iV (I.G.y.blocks:Int))/\w'.cell? (aD a.heap.size 3)=some (iV (I.G.y.nodes:Int))/\w'.cell? (aD a.heap.size 4)=some (iV (I.G.y.data:Int))/\w'.cell? (aD R.k 2)=some (iV (I.G.y.log:Int))/\w'.cell? (aD R.k 3)=some (iV (I.G.y.home:Int))/\w'.cell? (aD R.k 4)=some (iV (I.G.y.blocks:Int))/\w'.cell? (aD R.k 5)=some (iV (I.G.y.nodes:Int))/\w'.cell? (aD R.k 6)=some (iV (I.G.y.data:Int))) Y):=⟨aM Mf,bG Mf,bK Mf,fQ Mf,gH Mf,fK.c2,fK.c3,fK.c4,fK.c5,fK.c6⟩;clear fK iq Mf;go_region_held3 (λw'=>w'.cell? (aD a.heap.size 0)=some (iV (I.G.y.log:Int))/\w'.cell? (aD a.heap.size 1)=some (iV (I.G.y.home:Int))/\w'.cell? (aD a.heap.size 2)=some (iV (I.G.y.blocks:Int))/\w'.cell? (aD a.heap.size 3)=some (iV (I.G.y.nodes:Int))/\w'.cell? (aD a.heap.size 4)=some (iV (I.G.y.data:Int))/\w'.cell? (aD R.k 2)=some (iV (I.G.y.log:Int))/\w'.cell? (aD R.k 3)=some (iV (I.G.y.home:Int))/\w'.cell? (aD R.k 4)=some (iV (I.G.y.blocks:Int))/\w'.cell? (aD R.k 5)=some (iV (I.G.y.nodes:Int))/\w'.cell? (aD R.k 6)=some (iV (I.G.y.data:Int))) (exact U) (fail);go_wp2;go_ret;exact⟨by simp,uN.trans (dP.drew.mono uN.size)⟩
end
end
section
def Pe {S:DS} {s:Nat} (du:S.Ok s) (L M:LG) (h:M.dead (L.sync S s).2=false):M.dead S=false/\∀j,j<s->(L.sync S s).2.now j=S.now j:=by
 unfold LG.sync at*;split at h
 .rename_i q;rw [aG q];exact⟨h,λ_ _=>rfl⟩
 .rename_i q;rw [aB q];refine⟨?_,λj b=>eY du b⟩;have a:=V.jM h;rw [fX] at a;unfold LG.dead;simp [(V.jM (V.ko (Decidable.of_not_not q)).1).2,a.1]
def Lk.TQ {S S':DS} {s N:Nat} {b:List PI} {d:List PT} {rs:List RI} {us:List RJ} (h:Lk S s N b d rs us) (c:N<=M) (a:V.Inv S' s (b.map (λI=>I.G.L)) M) (EZ:S'.refused=S.refused):Lk S' s M b d rs us:=⟨h.sl,h.sg,h.tl,h.tg,a,h.now,λR k=>j4 (h.cs R k) c,λi R K e f g j=>j4 (h.ct i R K e f g j) c,EZ.trans h.rf⟩
def Lk.synced {S:DS} {s N:Nat} {a:List PI} {c:List PT} {rs:List RI} {us:List RJ} (h:Lk S s N a c rs us) (d:a[j]? =some I):Lk (I.G.L.sync S s).2 s (N+2) a c rs us:=by
 have b:(a.map (λI=>I.G.L))[j]? =some I.G.L:=by rw [Bk,d];rfl
 have:=h.inv.sync b;rw [mN b] at this;exact h.TQ (by omega) (this.more (by omega)) (EX _ _ _)
section
variable {w w':World} {q:Nat} {F P F2 X O A:Nat->Prop} {p r s c N:Nat} {S:DS} {v1 v2 v3 v4:Value} {ss:List PI} {ts:List PT} {rs:List RI} {us:List RJ}
end
end
section
def AM {S:DS} {s:Nat} (du:S.Ok s) (d:∀q∈G.ov,G.y.home+q.1<s/\q.2.length=512):(G.check S s).2.1.life=S.life:=by
 obtain⟨c,a,_⟩:=qD (L:=G.L) du;obtain⟨_,b,_,_,_⟩:=eD (h0:=G.y.home) (ms:=G.ov) c d;have SQ:=Db G.L (aE (G.L.sync S s).2 s G.y.home G.ov).2 s;unfold SG.check;split
 .exact a
 .split
  .exact b.trans a
  .split
   .exact SQ.1.trans (b.trans a)
   .exact SQ.1.trans (b.trans a)
def AN (G:SG) (S:DS) (s:Nat):(G.check S s).2.2.busy=G.busy:=by
 unfold SG.check;split
 .rfl
 .split
  .rfl
  .split <;> rfl
def ID {S:DS} {s t i:Nat} (h:V.Inv S s ls t) (g:ls[i]? =some G.L) (d:∀q∈G.ov,G.y.home+q.1<s/\q.2.length=512):(G.check S s).2.1=S\/∀n M,ls[n]? =some M->n≠i->M.dead (G.check S s).2.1=true:=by
 by_cases b:G.L.bj S=0
 .refine .inr (λn M a dM=>?_);obtain⟨hd,_⟩:=V.ko b;obtain⟨f,_⟩:=V.jM hd;cases j:M.dead (G.check S s).2.1
  .have c:=(V.jM j).1;rw [AM h.ok d] at c;exact absurd (V.qg h.li g a (c.trans f.symm)) dM
  .rfl
 .refine .inl ?_;have e:G.L.sync S s=(G.L.bj S,S):=by unfold LG.sync;rw [aG b]
  unfold SG.check;rw [e,aG b]
section
variable {s N M i:Nat} {S S':DS} {ss:List PI} {ts:List PT} {rs:List RI} {us:List RJ} {I I':PI} {R R':RI}
def Lk.akF (h:Lk S s N ss ts rs us) (j:ss[i]? =some I) (c:rs[i]? =some R) (t:R'.G=I'.G) (u:R'.nv=R.nv) (v:I'.G.busy=I.G.busy) (o:R'.ps=R.ps) (f:N<=M) (e:V.Inv S' s ((ss.set i I').map (λI=>I.G.L)) M) (EZ:S'.refused=S.refused):Lk S' s M (ss.set i I') ts (rs.set i R') us:=by
 refine⟨by rw [List.length_set,List.length_set];exact h.sl,λn A B b a=>?_,h.tl,h.tg,e,λn A B b a=>?_,λB a=>?_,λn B C a p r q=>?_,EZ.trans h.rf⟩
 .rcases dr j b with ⟨d,rfl⟩|⟨l,b⟩<;> rcases dr c a with ⟨g,rfl⟩|⟨m,a⟩
  .exact t
  .exact absurd d m
  .exact absurd g l
  .exact h.sg n A B b a
 .rcases dr j b with ⟨d,rfl⟩|⟨l,b⟩<;> rcases dr c a with ⟨g,rfl⟩|⟨m,a⟩
  .rw [u,v,d];exact h.now i I R j c
  .exact absurd d m
  .exact absurd g l
  .exact h.now n A B b a
 .obtain⟨n,k⟩:=List.mem_iff_getElem?.1 a;rcases dr c k with ⟨_,rfl⟩|⟨_,k⟩
  .rw [o];exact j4 (h.cs R (gA c)) f
  .exact j4 (h.cs B (gA k)) f
 .rcases dr c a with ⟨d,rfl⟩|⟨_,a⟩
  .rw [o];exact j4 (h.ct i R C c p (r.trans d) q) f
  .exact j4 (h.ct n B C a p r q) f
end
def Dl {S:DS} (h:L.bj S=0):L.dead S=false/\L.begun=true:=V.ko h
def Lt {S:DS} (h:L.dead S=false):L.life=S.life/\S.fuse≠0:=V.jM h
section
variable {w w':World} {q:Nat} {F P F2 X O A:Nat->Prop} {p r s c N:Nat} {S:DS} {v1 v2 v3 v4:Value} {ss:List PI} {ts:List PT} {rs:List RI} {us:List RJ}
end
end
section
def IE {S:DS} {s:Nat} (a:L.Ok s):(L.append S s d).2.1.life=S.life:=by
 have c:=a.n1;obtain⟨b,_,_,_⟩:=mD (L:=L) (S:=S) (s:=s) (d:=d) (by omega) a.s (dh d.length);unfold LG.append;split
 .rfl
 .split <;> exact b
def IF (G:SG) (S:DS) (s:Nat) (c:CM):(G.bI S s c).2.2.busy=G.busy:=by
 have a:(G.made S s (cw c).length).2.2.busy=G.busy:=by
  unfold SG.made;split
  .rfl
  .exact AN G S s
 unfold SG.bI;split
 .rfl
 .split
  .exact a
  .split <;> exact a
section
variable {G:SG} {T:TG} {S:DS} {s t i:Nat} {ls:List LG} {c:CM}
def IG (h:V.Inv S s ls t) (b:ls[i]? =some G.L) (g:G.L.begun=true) (a:∀q∈G.ov,G.y.home+q.1<s/\q.2.length=512/\Bytes q.2) (Ys:G.ov.length<=2048) (BT:G.L.f+2+G.L.n<=G.y.home):(G.bI S s c).2.1.life=S.life:=by
 have d:V.Inv (G.made S s (cw c).length).2.1 s (ls.set i (G.made S s (cw c).length).2.2.L) t:=by
  unfold SG.made;split
  .exact h.same b
  .exact h.check b g a Ys BT
 have Cc:(G.made S s (cw c).length).2.1.life=S.life:=by
  unfold SG.made;split
  .rfl
  .exact AM h.ok (λq e=>⟨(a q e).1,(a q e).2.1⟩)
 have du:=(d.at (List.getElem?_set_self ((mP.1 b).1))).1;unfold SG.bI;split
 .rfl
 .split
  .exact Cc
  .split <;> exact(IE du).trans Cc
def B6 (h:V.Inv S s ls t) (d:ls[i]? =some G.L) (l:G.L.begun=true) (j:∀q∈G.ov,G.y.home+q.1<s/\q.2.length=512/\Bytes q.2) (Ys:G.ov.length<=2048) (BT:G.L.f+2+G.L.n<=G.y.home) (o:∀q∈T.puts,Bytes q.2) (k:T.state G S=0):
    (T.bI G S s).2.2.1.y=G.y/\V.Inv (T.bI G S s).2.1 s (ls.set i (T.bI G S s).2.2.1.L) t/\((T.bI G S s).2.1=S\/∀n M,ls[n]? =some M->n≠i->M.dead (T.bI G S s).2.1=true)/\T.ended=false/\
     (((T.bI G S s).2.2.2=T/\(T.bI G S s).2.2.1.busy=G.busy)\/((T.bI G S s).2.2.2=T.close/\(T.bI G S s).2.2.1.busy=false)):=by
 have hd:=Ah k;have a:T.ended=false:=by
  unfold TG.state TG.bT at k;cases a:T.ended
  .rfl
  .rw [hd,a] at k;simp at k
 obtain⟨m,_⟩:=V.jM hd;have b:=h.WL (c:=T.news G S) d l j Ys BT (λq p=>o q (GY p));have ST:∀n M,ls[n]? =some M->n≠i->M.dead (G.bI S s (T.news G S)).2.1=true:=λn M e dM=>by
  cases r:M.dead (G.bI S s (T.news G S)).2.1
  .have g:=(V.jM r).1;rw [(IG (c:=T.news G S) h d l j Ys BT)] at g;exact absurd (V.qg h.li d e (g.trans m.symm)) dM
  .rfl
 unfold TG.bI;rw [aB (λh=>h k)];split
 .exact⟨rfl,h.same d, .inl rfl,a, .inr ⟨rfl,rfl⟩⟩
 .split
  .exact⟨Ag _ _ _ _,b, .inr ST,a, .inl ⟨rfl,IF _ _ _ _⟩⟩
  .exact⟨Ag _ _ _ _,b, .inr ST,a, .inr ⟨rfl,rfl⟩⟩
end
section
variable {w w':World} {F X:Nat->Prop} {p r s cR q l m t n k kl hm:Nat} {S:DS} {G:SG} {T:TG} {pv nv tv:Value} {ps us:List (Nat×List Int)}
def Pf (h:it w F p s cR q l m S G) (b:mH w F q l m t n G T) (k:T.state G S≠0):
  Calls prog 88 #[pQ t] w λe w'=>e= .returned (iV (T.state G S))/\bW w w':=by
 have a:=nS h b;generalize T.state G S=E at*;have d:(E != 0)=true:=by rw [gB];exact k
 clear k h b;go_in;go_wp2_with fail;refine bN a λw1 ar=>?_;have c:=yh ar;clear a ar;go_wp2;go_ret;exact⟨rfl,c.o⟩
def Lu (hd:aC w F r s S) (h:iL w F X r s S k kl G pv ps hm nv) (b:oj w X k t G T tv us) (kk:T.state G S≠0):
  Calls prog 89 #[pQ t] w λe w'=>e= .returned (iV (T.state G S))/\bW w w':=by
 have a:=kt hd h b.tx;generalize T.state G S=E at*;have d:(E != 0)=true:=by rw [gB];exact kk
 clear kk h b hd;go_in;go_wp2_with fail;refine bN a λw1 ar=>?_;have c:=yh ar;clear a ar;go_wp2;go_ret;exact⟨rfl,c.o⟩
end
end
section
def akG {t:TypeId} (a:(prog.info? e).map (λi=>(i.zero,i.size,i.bytes))=some (some (.pointer none),1,8)) (f:prog.underlying t=some (.slice e)) (be:W.ownsRow 0 e 1 v k vs) (x:Value) (j:x.oneCell'=true) (m:(k+1)*8<=140737488355328):
  ∃g cap w',(Builtin.append_ #[t,t] t #[v, .slice (some (aD W.heap.size 0)) 1 1]).run prog (W.alloc (.cells #[x] e))= .ok (.slice (some (aD g 0)) (k+1) cap) w'/\w'.ownsRow 0 e 1 (.slice (some (aD g 0)) (k+1) cap) (k+1) (vs ++ [x])/\(W.alloc (.cells #[x] e)).grownBy w' v.ownBlock/\(v.ownBlock=some g\/g=W.heap.size+1)/\g<w'.heap.size:=by
 obtain⟨l,d,gC,dE,ev⟩:=info_parts a;exact run_append_lies (P:=prog) (W.alloc (.cells #[x] e)) t t 0 e l (.pointer none) 1 8 f d gC dE ev rfl (by decide) v k vs (dR be (λg c=>by
   obtain⟨cur,b⟩:=bz be c;exact Below.heap_alloc _ _ _ (aq b))) (aD W.heap.size 0) 1 1 [x] rfl (World.news_of_block (cs:= #[x]) (t:=e) (fr:=(0,0)) (heap_alloc_new W _)) (by simpa using j) (by omega) (by unfold maxLen;omega) (by omega) (by simp) _ (by simp)
section
variable {w w2:World} {q:Nat} {F P F2 X O P' X':Nat->Prop} {p r s c:Nat} {S S2:DS} {v1 v2 v3 v4 u1 u2 u3 u4:Value} {ss TL:List PI} {ts Xn:List PT} {rs Bg:List RI} {us KQ:List RJ}
def pb {b c f:TypeId} {u:Value} {m x:Nat} {o:List Value} {cs:Array Value} {z:Nat×Nat} (g:w.ownsRow 0 b 1 u n xs) (i:w.ownsRow 0 c 1 v m o) (j:w.heap[q]? =some (.cells cs f z)) (k:b≠c) (l:b≠f) (e:u.ownBlock=some x):¬(v.ownBlock=some x\/x=q):=λa=>by
 obtain⟨cur,d⟩:=bz g e;rcases a with a|a
 .obtain⟨adg,By⟩:=bz i a;exact cY d By k rfl
 .exact cY d j l a
def W5.grow (h:W5 w q F P F2 X O p r s S S2 c v1 v2 v3 v4 ss ts rs us) {t:TypeId} (j:Nat) (A:(Tryz.prog.info? e).map (λi=>(i.zero,i.size,i.bytes))=some (some (.pointer none),1,8)) (G:Tryz.prog.underlying t=some (.slice e)) (y:w.ownsRow 0 e 1 v k vs) (z:∀g,v.ownBlock=some g->O g) (dM:e≠35) (l:Nat) (f:(k+1)*8<=140737488355328):
  ∃g a w1 w2,(Builtin.append_ #[t,t] t #[v, .slice (some (aD w.heap.size 0)) 1 1]).run Tryz.prog (w.alloc (.cells #[pV l] e))= .ok (.slice (some (aD g 0)) (k+1) a) w1/\w1.heap[q]? =some (.cells (UT p r v1 v2 v3 v4) 35 (0,0))/\w2=w1.setCell ⟨q,j,none⟩ (.slice (some ⟨g,0,none⟩) (k+1) a)/\w2.heap[q]? =some (.cells ((UT p r v1 v2 v3 v4).setIfInBounds j (.slice (some ⟨g,0,none⟩) (k+1) a)) 35 (0,0))/\w2.ownsRow 0 e 1 (.slice (some (aD g 0)) (k+1) a) (k+1) (vs ++ [pV l])/\(∀x,(Value.slice (some (aD g 0)) (k+1) a).ownBlock=some x->more O w w2 x)/\aa (λg=>v.ownBlock=some g\/g=q) w w2/\aa O w w2:=by
 obtain⟨g,a,w1,bD,o,d,is,U4⟩:=akG A G y (pV l) rfl f;have iq:=aJ w (.cells #[pV l] e);have ee:(w.alloc (.cells #[pV l] e)).heap.size=w.heap.size+1:=by simp
 have dE:w.heap.size+1<=w1.heap.size:=by have:=d.size;omega
 have ff:aa (λk=>v.ownBlock=some k) w w1:=by
  refine⟨d.os.trans iq.os,d.tape.trans iq.tape,d.output.trans iq.output,by omega,λk f E=>?_⟩;exact(d.block k (by omega) (λe=>E e.symm)).trans (iq.block k f)
 have m:∀k,v.ownBlock=some k->k≠q:=λk e=>by
  obtain⟨cur,C⟩:=bz y e;exact cY C h.box dM
 have iM:=(ff.block q (h.pp q h.oq) (λe=>m q e rfl)).trans h.box;obtain⟨w2,dD⟩:=bQ (w1.setCell ⟨q,j,none⟩ (.slice (some ⟨g,0,none⟩) (k+1) a));have ey:aa (λk=>k=q) w1 w2:=by rw [dD];exact aL (F:=λk=>k=q) w1 rfl j _
 have aY:aa (λk=>v.ownBlock=some k\/k=q) w w2:=(ff.mono (λ_ h=> .inl h)).trans ey (λj D=> .inl (.inr D));have ev:w2.heap.size=w1.heap.size:=by rw [dD];simp
 have n:g≠q:=by
  rcases is with is|is
  .exact m g is
  .have:=h.pp q h.oq;omega
 refine⟨g,a,w1,w2,bD,iM,dD,by rw [dD];exact heap_setCell_same _ _ j _ _ _ iM,dR o (λx u=>?_),λx u=>?_,aY,aY.mono (λk f=>f.elim (z k) (λe=>e▸h.oq))⟩
 .have b:x=g:=by simpa [Value.ownBlock] using u.symm
  subst b;exact ey.block x U4 n
 .have b:x=g:=by simpa [Value.ownBlock] using u.symm
  subst b;exact is.elim (λe=> .inl (z x e)) (λe=> .inr ⟨by omega,by omega⟩)
def W5.mkP (h:W5 w q F P F2 X O p r s S S2 c v1 v2 v3 v4 ss ts rs us) (i:PW w F P' p s S c TL Xn) (f:∀g,P' g->¬(F2 g\/X g\/O g)) (E0:aa O w w2) (j:w2.heap[q]? =some (.cells (UT p r u1 v2 u3 v4) 35 (0,0))) (l:w2.ownsRow 0 53 1 u1 TL.length (TL.map (λI=>pV I.q))) (v:∀g,u1.ownBlock=some g->more O w w2 g) (m:w2.ownsRow 0 110 1 v2 rs.length (rs.map (λI=>pV I.k))) (n:w2.ownsRow 0 56 1 u3 Xn.length (Xn.map (λJ=>pV J.t))) (x:∀g,u3.ownBlock=some g->more O w w2 g) (o:w2.ownsRow 0 122 1 v4 us.length (us.map (λJ=>pV J.u))):W5 w2 q F P' F2 X (more O w w2) p r s S S2 c u1 v2 u3 v4 TL Xn rs us:=by
 refine⟨j, .inl h.oq,λk a=>a.elim (λa=>i6 (h.pp k a) E0.size) (λh=>h.2),i.aw E0 (λk a b=>h.oa k b (.inl a)) (λk a b=>f k a (.inr (.inr b))),h.rw.aw E0 (λk a b=>h.od k b (.inl a)) (λk a b=>h.od k b (.inr a)),l,v,m,λg e=> .inl (h.q2 g e),n,x,o,λg e=> .inl (h.q4 g e),λk a b=>?_,λk a b=>?_,λk a b=>?_⟩
 .rcases a with a|a
  .exact h.ad k (.inl a) b
  .exact f k a (b.elim .inl (λb=> .inr (.inl b)))
 .rcases a with a|a <;> rcases b with b|b
  .exact h.oa k a (.inl b)
  .exact f k b (.inr (.inr a))
  .have:=h.pw.d.lt k b;omega
  .have:=i.lt k b;omega
 .rcases a with a|a
  .exact h.od k a b
  .rcases b with b|b
   .have:=h.rw.e.lt k b;omega
   .have:=h.rw.lt k b;omega
def W5.mkD (h:W5 w q F P F2 X O p r s S S2 c v1 v2 v3 v4 ss ts rs us) (i:RW w F2 X' r s S2 Bg KQ) (f:∀g,X' g->¬(F g\/P g\/O g)) (E0:aa O w w2) (j:w2.heap[q]? =some (.cells (UT p r v1 u2 v3 u4) 35 (0,0))) (l:w2.ownsRow 0 53 1 v1 ss.length (ss.map (λI=>pV I.q))) (m:w2.ownsRow 0 110 1 u2 Bg.length (Bg.map (λI=>pV I.k))) (v:∀g,u2.ownBlock=some g->more O w w2 g) (n:w2.ownsRow 0 56 1 v3 ts.length (ts.map (λJ=>pV J.t))) (o:w2.ownsRow 0 122 1 u4 KQ.length (KQ.map (λJ=>pV J.u))) (x:∀g,u4.ownBlock=some g->more O w w2 g):W5 w2 q F P F2 X' (more O w w2) p r s S S2 c v1 u2 v3 u4 ss ts Bg KQ:=by
 refine⟨j, .inl h.oq,λk b=>b.elim (λb=>i6 (h.pp k b) E0.size) (λh=>h.2),h.pw.aw E0 (λk b a=>h.oa k a (.inl b)) (λk b a=>h.oa k a (.inr b)),i.aw E0 (λk b a=>h.od k a (.inl b)) (λk b a=>f k b (.inr (.inr a))),l,λg e=> .inl (h.q1 g e),m,v,n,λg e=> .inl (h.q3 g e),o,x,λk b a=>?_,λk b a=>?_,λk b a=>?_⟩
 .rcases a with a|a
  .exact h.ad k b (.inl a)
  .exact f k a (b.elim .inl (λb=> .inr (.inl b)))
 .rcases b with b|b
  .exact h.oa k b a
  .rcases a with a|a
   .have:=h.pw.d.lt k a;omega
   .have:=h.pw.lt k a;omega
 .rcases b with b|b <;> rcases a with a|a
  .exact h.od k b (.inl a)
  .exact f k a (.inr (.inr b))
  .have:=h.rw.e.lt k a;omega
  .have:=i.lt k a;omega
def W5.afA {E:PI} (h:W5 w q F P F2 X O p r s S S2 c v1 v2 v3 v4 ss ts rs us) (k:PW w F P' p s S c (ss ++ [E]) ts) (b:∀g,P' g->¬(F2 g\/X g\/O g)) (f:(ss.length+1)*8<=140737488355328):
  ∃g a w1,(Builtin.append_ #[30,30] 30 #[v1, .slice (some (aD w.heap.size 0)) 1 1]).run Tryz.prog (w.alloc (.cells #[pV E.q] 53))= .ok (.slice (some (aD g 0)) (ss.length+1) a) w1/\w1.heap[q]? =some (.cells (UT p r v1 v2 v3 v4) 35 (0,0))/\
   W5 (w1.setCell ⟨q,2,none⟩ (.slice (some ⟨g,0,none⟩) (ss.length+1) a)) q F P' F2 X (more O w (w1.setCell ⟨q,2,none⟩ (.slice (some ⟨g,0,none⟩) (ss.length+1) a))) p r s S S2 c (.slice (some (aD g 0)) (ss.length+1) a) v2 v3 v4 (ss ++ [E]) ts rs us/\aa O w (w1.setCell ⟨q,2,none⟩ (.slice (some ⟨g,0,none⟩) (ss.length+1) a)):=by
 obtain⟨g,a,w1,l,bD,iM,dD,d,i,j,aY,E0⟩:=h.grow 2 (by kernel_rfl) Tryz.underlying30 h.o1 h.q1 (by decide) E.q f;refine⟨g,a,w1,bD,iM,?_⟩;rw [<-dD];exact⟨h.mkP k b E0 (d.trans (by simp)) (by rw [ed,List.map_append];exact i) j (aF h.o2 (λx e=>aY.block x (h.pp x (h.q2 x e)) (pb h.o2 h.o1 h.box (by decide) (by decide) e))) (aF h.o3 (λx e=>aY.block x (h.pp x (h.q3 x e)) (pb h.o3 h.o1 h.box (by decide) (by decide) e))) (λg e=> .inl (h.q3 g e)) (aF h.o4 (λx e=>aY.block x (h.pp x (h.q4 x e)) (pb h.o4 h.o1 h.box (by decide) (by decide) e))),E0⟩
def W5.afB {E:RI} (h:W5 w q F P F2 X O p r s S S2 c v1 v2 v3 v4 ss ts rs us) (l:RW w F2 X' r s S2 (rs ++ [E]) us) (b:∀g,X' g->¬(F g\/P g\/O g)) (f:(rs.length+1)*8<=140737488355328):
  ∃g a w1,(Builtin.append_ #[31,31] 31 #[v2, .slice (some (aD w.heap.size 0)) 1 1]).run Tryz.prog (w.alloc (.cells #[pV E.k] 110))= .ok (.slice (some (aD g 0)) (rs.length+1) a) w1/\w1.heap[q]? =some (.cells (UT p r v1 v2 v3 v4) 35 (0,0))/\
   W5 (w1.setCell ⟨q,3,none⟩ (.slice (some ⟨g,0,none⟩) (rs.length+1) a)) q F P F2 X' (more O w (w1.setCell ⟨q,3,none⟩ (.slice (some ⟨g,0,none⟩) (rs.length+1) a))) p r s S S2 c v1 (.slice (some (aD g 0)) (rs.length+1) a) v3 v4 ss ts (rs ++ [E]) us/\aa O w (w1.setCell ⟨q,3,none⟩ (.slice (some ⟨g,0,none⟩) (rs.length+1) a)):=by
 obtain⟨g,a,w1,m,bD,iM,dD,d,i,j,aY,E0⟩:=h.grow 3 (by kernel_rfl) Tryz.underlying31 h.o2 h.q2 (by decide) E.k f;refine⟨g,a,w1,bD,iM,?_⟩;rw [<-dD];exact⟨h.mkD l b E0 (d.trans (by simp)) (aF h.o1 (λx e=>aY.block x (h.pp x (h.q1 x e)) (pb h.o1 h.o2 h.box (by decide) (by decide) e))) (by rw [ed,List.map_append];exact i) j (aF h.o3 (λx e=>aY.block x (h.pp x (h.q3 x e)) (pb h.o3 h.o2 h.box (by decide) (by decide) e))) (aF h.o4 (λx e=>aY.block x (h.pp x (h.q4 x e)) (pb h.o4 h.o2 h.box (by decide) (by decide) e))) (λg e=> .inl (h.q4 g e)),E0⟩
def W5.afC {E:PT} (h:W5 w q F P F2 X O p r s S S2 c v1 v2 v3 v4 ss ts rs us) (k:PW w F P' p s S c ss (ts ++ [E])) (b:∀g,P' g->¬(F2 g\/X g\/O g)) (f:(ts.length+1)*8<=140737488355328):
  ∃g a w1,(Builtin.append_ #[32,32] 32 #[v3, .slice (some (aD w.heap.size 0)) 1 1]).run Tryz.prog (w.alloc (.cells #[pV E.t] 56))= .ok (.slice (some (aD g 0)) (ts.length+1) a) w1/\w1.heap[q]? =some (.cells (UT p r v1 v2 v3 v4) 35 (0,0))/\
   W5 (w1.setCell ⟨q,4,none⟩ (.slice (some ⟨g,0,none⟩) (ts.length+1) a)) q F P' F2 X (more O w (w1.setCell ⟨q,4,none⟩ (.slice (some ⟨g,0,none⟩) (ts.length+1) a))) p r s S S2 c v1 v2 (.slice (some (aD g 0)) (ts.length+1) a) v4 ss (ts ++ [E]) rs us/\aa O w (w1.setCell ⟨q,4,none⟩ (.slice (some ⟨g,0,none⟩) (ts.length+1) a)):=by
 obtain⟨g,a,w1,l,bD,iM,dD,d,i,j,aY,E0⟩:=h.grow 4 (by kernel_rfl) Tryz.underlying32 h.o3 h.q3 (by decide) E.t f;refine⟨g,a,w1,bD,iM,?_⟩;rw [<-dD];exact⟨h.mkP k b E0 (d.trans (by simp)) (aF h.o1 (λx e=>aY.block x (h.pp x (h.q1 x e)) (pb h.o1 h.o3 h.box (by decide) (by decide) e))) (λg e=> .inl (h.q1 g e)) (aF h.o2 (λx e=>aY.block x (h.pp x (h.q2 x e)) (pb h.o2 h.o3 h.box (by decide) (by decide) e))) (by rw [ed,List.map_append];exact i) j (aF h.o4 (λx e=>aY.block x (h.pp x (h.q4 x e)) (pb h.o4 h.o3 h.box (by decide) (by decide) e))),E0⟩
def W5.afD {E:RJ} (h:W5 w q F P F2 X O p r s S S2 c v1 v2 v3 v4 ss ts rs us) (k:RW w F2 X' r s S2 rs (us ++ [E])) (b:∀g,X' g->¬(F g\/P g\/O g)) (f:(us.length+1)*8<=140737488355328):
  ∃g a w1,(Builtin.append_ #[33,33] 33 #[v4, .slice (some (aD w.heap.size 0)) 1 1]).run Tryz.prog (w.alloc (.cells #[pV E.u] 122))= .ok (.slice (some (aD g 0)) (us.length+1) a) w1/\w1.heap[q]? =some (.cells (UT p r v1 v2 v3 v4) 35 (0,0))/\
   W5 (w1.setCell ⟨q,5,none⟩ (.slice (some ⟨g,0,none⟩) (us.length+1) a)) q F P F2 X' (more O w (w1.setCell ⟨q,5,none⟩ (.slice (some ⟨g,0,none⟩) (us.length+1) a))) p r s S S2 c v1 v2 v3 (.slice (some (aD g 0)) (us.length+1) a) ss ts rs (us ++ [E])/\aa O w (w1.setCell ⟨q,5,none⟩ (.slice (some ⟨g,0,none⟩) (us.length+1) a)):=by
 obtain⟨g,a,w1,l,bD,iM,dD,d,i,j,aY,E0⟩:=h.grow 5 (by kernel_rfl) Tryz.underlying33 h.o4 h.q4 (by decide) E.u f;refine⟨g,a,w1,bD,iM,?_⟩;rw [<-dD];exact⟨h.mkD k b E0 (d.trans (by simp)) (aF h.o1 (λx e=>aY.block x (h.pp x (h.q1 x e)) (pb h.o1 h.o4 h.box (by decide) (by decide) e))) (aF h.o2 (λx e=>aY.block x (h.pp x (h.q2 x e)) (pb h.o2 h.o4 h.box (by decide) (by decide) e))) (λg e=> .inl (h.q2 g e)) (aF h.o3 (λx e=>aY.block x (h.pp x (h.q3 x e)) (pb h.o3 h.o4 h.box (by decide) (by decide) e))) (by rw [ed,List.map_append];exact i) j,E0⟩
end
def Xo {β:Type} {f:α->β} {l:List α} {a b:α} (c:l[i]? =some a) (h:f b=f a):(l.set i b).map f=l.map f:=by
 rw [List.map_set];apply List.ext_getElem?;intro n;by_cases e:n=i
 .subst e;rw [List.getElem?_set_self (by simpa using ((mP.1 c).1)),Bk,c,h];rfl
 .rw [List.getElem?_set_ne (λh=>e h.symm)]
def nh {l:List α} {a x:α} (b:(l ++ [a])[n]? =some x):(n=l.length/\x=a)\/(n<l.length/\l[n]? =some x):=by
 by_cases e:n<l.length
 .rw [List.getElem?_append_left e] at b;exact .inr ⟨e,b⟩
 .have d:=(mP.1 b).1;have c:n=l.length:=by simp at d;omega
  subst c;rw [List.getElem?_append_right (bS _),Nat.sub_self] at b;exact .inl ⟨rfl,by simpa using b.symm⟩
def TR {l:List α} {a x:α} (h:l[n]? =some x):(l ++ [a])[n]? =some x:=by
 rw [List.getElem?_append_left (mP.1 h).1];exact h
def MW (l:List α) (a:α):(l ++ [a])[l.length]? =some a:=by
 rw [List.getElem?_append_right (bS _),Nat.sub_self];rfl
def Lk.begun {S:DS} {s:Nat} {v:List PI} {z:List PT} {rs:List RI} {us:List RJ} {t u:Nat} {tv:Value} (h:Lk S s N v z rs us) (x:v[i]? =some I) (f:rs[i]? =some R) (U:I.G.busy=false):
  Lk S s N (v.set i {I with G:={I.G with busy:=true}}) (z ++ [⟨i,t,n,⟨[],0,false⟩⟩]) (rs.set i {R with G:={I.G with busy:=true},nv:=pV u}) (us ++ [⟨i,u,tv, [],⟨[],0,false⟩⟩]):=by
 have bV:∀(j:Nat) (J:PT),z[j]? =some J->J.i=i->J.T.ended=true:=λj J k g=>by
  rcases h.now i I R x f with ⟨_,_,o⟩|⟨r,J',K',l,_,o,_,E,F⟩
  .exact o j J k g
  .by_cases e:j=r
   .subst e;rw [k] at l;cases l;rw [E,U];rfl
   .exact F j J k g e
 refine⟨by rw [List.length_set,List.length_set];exact h.sl,λm A C c a=>?_,by rw [ed,ed,h.tl];rfl,λm A C c a=>?_,?_,λm A C c a=>?_,λC a=>?_,λm C K a p g O=>?_,h.rf⟩
 .rcases dr x c with ⟨d,rfl⟩|⟨q,c⟩<;> rcases dr f a with ⟨w,rfl⟩|⟨y,a⟩
  .rfl
  .exact absurd d y
  .exact absurd w q
  .exact h.sg m A C c a
 .have M:=h.tl;rcases nh c with ⟨d,rfl⟩|⟨q,c⟩<;> rcases nh a with ⟨w,rfl⟩|⟨y,a⟩
  .exact⟨rfl,rfl⟩
  .omega
  .omega
  .exact h.tg m A C c a
 .have M:(v.set i {I with G:={I.G with busy:=true}}).map (λI:PI=>I.G.L)=v.map (λI:PI=>I.G.L):=Xo x rfl;rw [M];exact h.inv
 .rcases dr x c with ⟨d,rfl⟩|⟨q,c⟩<;> rcases dr f a with ⟨w,rfl⟩|⟨y,a⟩
  .refine .inr ⟨z.length,_,_,MW _ _,by rw [<-h.tl];exact MW _ _,d.symm,rfl,rfl,λr J' b nC dM=>?_⟩;rcases nh b with ⟨P,_⟩|⟨_,b⟩
   .exact absurd P dM
   .exact bV r J' b (nC.trans d)
  .exact absurd d y
  .exact absurd w q
  .rcases h.now m A C c a with ⟨l,D,o⟩|⟨j,J,K,l,D,o,Q,E,F⟩
   .refine .inl ⟨l,D,λj J k g=>?_⟩;rcases nh k with ⟨_,rfl⟩|⟨_,k⟩
    .exact absurd g.symm q
    .exact o j J k g
   .refine .inr ⟨j,J,K,TR l,TR D,o,Q,E,λr J' b nC dM=>?_⟩;rcases nh b with ⟨_,rfl⟩|⟨_,b⟩
    .exact absurd nC.symm q
    .exact F r J' b nC dM
 .obtain⟨m,H⟩:=List.mem_iff_getElem?.1 a;rcases dr f H with ⟨_,rfl⟩|⟨_,H⟩
  .exact h.cs R (gA f)
  .exact h.cs C (gA H)
 .rcases List.mem_append.1 p with p|p
  .rcases dr f a with ⟨d,rfl⟩|⟨_,a⟩
   .exact h.ct i R K f p (g.trans d) O
   .exact h.ct m C K a p g O
  .rw [List.mem_singleton.1 p];show C.ps.length+0<=N;rw [Nat.add_zero];rcases dr f a with ⟨d,rfl⟩|⟨_,a⟩
   .exact h.cs R (gA f)
   .exact h.cs C (gA a)
def W5.nowAt {w:World} {q:Nat} {F P F2 X O:Nat->Prop} {p r s c:Nat} {S d:DS} {v x y z:Value} {g TL:List PI} {k:List PT} {rs:List RI} {us:List RJ} (h:W5 w q F P F2 X O p r s S d c v x y z TL k rs us) (e:Lk d s N g k rs us) (n:g[i]? =some I) (o:rs[i]? =some R):Ya w R.nv I.G.busy:=by
 rcases e.now i I R n o with ⟨b,a,_⟩|⟨j,J,K,b,a,A,l,m,_⟩
 .exact .inl ⟨b,a⟩
 .obtain⟨M,C,t⟩:=h.rw.tx K (gA a);have f:=t.tx;refine .inr ⟨K.u,l,f.lt,?_⟩;have:=bK f;rw [<-m,<-((e.tg j J K b a).2)];exact this
end
def B.afE (h:B.ax w F p s S c) (a:Int) (f:a<=9223372036854775807):Calls prog 26 #[pQ p,iV a] w λe w'=>e= .returned (.tuple #[])/\B.ax w' F p s (S.lay a) c/\aa F w w':=by
 obtain⟨r,h,g⟩:=h;refine(XD h a f).mono ?_;rintro e w' ⟨rfl,b,d⟩;exact⟨rfl,⟨r,by rw [<-VC];exact b,g⟩,d⟩
def abm {G:Nat->Prop} {r q:Nat} {v1 v2 v3 v4:Value} (h:B.ax w F p s S c) (he:aC w G r s S) (C:∀k,F k->¬G k) (M:w.heap[q]? =some (.cells (UT p r v1 v2 v3 v4) 35 (0,0))) (D:¬F q) (aU:S.puts.length+1<=4000000000000) (EZ:S.refused=0) (hc:c<4611686018427387904):
  Calls prog 13 #[pV q] w λe w'=>e= .returned (.bool true)/\B.ax w' F p s S (c+s)/\aa F w w':=by
 obtain⟨iK,W⟩:=bU h.lt EZ;clear EZ;obtain⟨O,K,y,Mu,afF,PK,h1⟩:=nA (yh h) (yh he) (yh M) h.ok.hi (aq M) (yh h.ok) (B.J3 h);have X:w.cell? (aD q 0)=some (pV p):=aM M;obtain⟨L,BX⟩:∃L,L=(S.fuse == 0):=⟨_,rfl⟩;have akI:Yh (∀w',B.ax w' F p s S c->Calls prog 35 #[pQ p] w' λe Bq=>e= .returned (.bool L)/\Bq=w'):=λw' h=>by rw [BX];exact B.zj h
 have akJ:Yh (∀w',aC w' G r s S->Calls prog 36 #[pQ r] w' λe Bq=>e= .returned (.bool L)/\Bq=w'):=λw' h=>by rw [BX];exact kq h
 clear h he M BX;go_in;go_wp2_with fail;refine h1.mono ?_;rintro e w1 ⟨g1,cc1,rfl,py,mq,ar⟩;have abn:=(ar.block q afF).trans y.o;have PY:w1.cell? (aD q 0)=some (pV p):=aM abn;have IH:w1.cell? (aD q 1)=some (pV r):=bG abn;have el:=mq.src;rw [PK.o.len] at el;obtain⟨o7,cQ,abo,dE⟩:=cO (yh el) (yh ar) (yh (ai ar)) ar.size;clear h1 mq el ar abn X;go_wp2_with fail;go_region_held3 (λw'=>w'.cell? (aD q 0)=some (pV p)/\w'.cell? (aD q 1)=some (pV r))
  (first|exact⟨PY,IH⟩|exact⟨g,m⟩|exact⟨l,n⟩)
  (first
   |(go_at_call 34;refine(Kt (K.o.later abo.o)).mono ?_;rintro e w2 ⟨g2,rK,rfl,fZ,fy,bd⟩;have bo:=fy.src;rw [PK.o.len] at bo;have g:=cell_later bd PY;have m:=cell_later bd IH)
   |(go_at_call 21;refine(pA (some (aD g1 0)) (some (aD g2 0)) (s*512) cc1 rK S.im w2 (by omega) (o7.o.later ((ai (bi w1.heap.size w1)).trans bd)) bo).mono ?_;rintro e w3 ⟨rfl,bF⟩;have l:=cell_later bF g;have n:=cell_later bF m;have gd:=yh (abo.o.trans ((bd.mono dE).trans (bF.mono (j4 dE bd.size)))))
   |(go_at_call 35;refine(akI.o _ (O.o.later gd.o)).mono ?_;rintro e x ⟨rfl,px⟩;have EP:=px.symm;clear px;subst EP)
   |(go_at_call 36;refine(akJ.o _ (K.o.later gd.o)).mono ?_;rintro e w5 ⟨rfl,Jg⟩;have Lv:=Jg.symm;clear Jg;subst Lv))
 have N:=yh l;have z:=yh n;have lB:=gd.o.size;clear bo fy bd bF PY IH g m n;go_wp2_with fail;refine(B.rh (O.o.later gd.o) (by omega) hc).mono ?_;rintro e x ⟨rr,rfl,_,_,fw⟩;have ws:=fw.size;have jV:Yh (bW w x):=gd.o.trans (fw.mono lB);have fa:=aJ x (.cells (ef (rr:Int) S.writes S.flushes S.refused S.puts.length) 65);have JK:=jV.o.trans (fa.mono (by omega));have Z:=cell_later fa (cell_later fw z.o);have Us:(x.alloc (.cells (ef (rr:Int) S.writes S.flushes S.refused S.puts.length) 65)).heap[x.heap.size]? =some (.cells (ef (rr:Int) S.writes S.flushes S.refused S.puts.length) 65 (0,0)):=heap_alloc_new _ _;obtain⟨aY,pR,jr,Yy⟩:=cO (Km (K.o.later JK)) fa.size (yh JK) (yh Us);clear fw l fa JK Us;go_wp2_with fail;refine bN aY λJ nI=>?_;have RF:=nI.size;have xB:=aJ J (.cells (ef S.reads S.writes S.flushes S.refused S.puts.length) 65);have UL:=(xB.block x.heap.size (i6 (aq Yy.o) RF)).trans ((nI.block x.heap.size (aq Yy.o)).trans Yy.o);have a:(J.alloc (.cells (ef S.reads S.writes S.flushes S.refused S.puts.length) 65)).heap[J.heap.size]? =some (.cells (ef S.reads S.writes S.flushes S.refused S.puts.length) 65 (0,0)):=heap_alloc_new _ _;obtain⟨a1,a2,a3,a4,b1,b2,b3,b4,Pg⟩:=MZ (bG UL) (bK UL) ((fQ UL).trans (congrArg (λt=>some (Value.int .i64 t)) W.o)) (gH UL) (bG a) (bK a) (fQ a) (gH a) (j4 lB ws);have FA:Yh (bW w (J.alloc (.cells (ef S.reads S.writes S.flushes S.refused S.puts.length) 65))):=jr.o.trans ((nI.mono (j4 Pg pR)).trans (xB.mono (j4 Pg (j4 pR RF))));clear aY nI xB UL a Z jV gd cQ abo o7 N z;go_wp2;generalize J.alloc (.cells (ef S.reads S.writes S.flushes S.refused S.puts.length) 65)=w7 at*;clear a1 a2 a3 a4 b1 b2 b3 b4;have hz7:=FA.o.size;go_loopw [6] (λi wr=>∃j:Nat,j<=s/\i=iV (j:Int)/\B.ax wr F p s S (c+j)/\aa F w7 wr) (λi _=>s-(intOf i).toNat);case atStart=>exact⟨0,dV _,rfl,(yh (O.o.later FA.o)).out,aa.refl _ _⟩
 case round=>
  obtain⟨j,hj,rfl,hd,H⟩:=hrel;obtain⟨sW,C1⟩:=bU hd H;have f:=(H.block q (by omega) D).trans (yh ((FA.o.block q afF).trans y.o)).out;have X:wr.cell? (aD q 0)=some (pV p):=aM f;have c1:wr.cell? (aD q 1)=some (pV r):=bG f;have b:=(yh (K.o.later FA.o)).out.aw H (λk hg u=>C k u hg);obtain⟨el,bo,Aj,Q,U⟩:=eK (mE b) (kq b) H.size (yh b) (yh f);clear hd H f b;by_cases bq:j<s
  .have cC:(j:Int)<(s:Int):=(by omega);go_wp2_with fail;refine bN el λw8 YK=>?_;have TS:=YK.symm;clear YK;subst TS;go_wp2_with fail;refine bN bo λw8 YK=>?_;have TS:=YK.symm;clear YK el bo;subst TS;by_cases u:S.fuse=0
   .have d:(S.fuse == 0)=true:=(by rw [u];rfl);have R:Yh (B.ax wr F p s S (c+s)/\aa F w wr):=⟨sW.o.le (by omega),(aa.ah F FA.o).trans C1.o (λ_ h=> .inl h)⟩;go_wp2;go_ret;exact⟨rfl,R.o⟩
   .have d:(S.fuse == 0)=false:=(by rw [fJ];exact u);go_wp2_with fail;refine(B.zO sW.o j bq aU u).mono ?_;rintro e w9 ⟨v9,rfl,ho9,E,Bb⟩;obtain⟨a9,c9,rfl,v,_⟩:=ho9;have YL:=bu PK.o j bq;rw [YL] at v⊢;have IH:w9.cell? (aD q 1)=some (pV r):=bG ((Bb.block q (by omega) D).trans U.o);have Zj:=jN (Q.o.aw Bb (λk hg u=>C k u hg)) j bq (by omega);have P:=yh E;have T:Yh (aa F w7 w9):=C1.o.trans Bb (λ_ h=> .inl h);have hz9:=Bb.size;clear E Bb X c1;go_wp2_with fail;refine Zj.mono ?_;rintro e Ts ⟨g10,Y,rfl,_,DE,afH⟩;have afI:=afH.symm;clear afH;subst afI;have abp:=DE.src;rw [YL] at abp;have A:=pA a9 (some (aD g10 0)) 512 c9 Y (S.now j) w9 (by omega) v abp;clear Zj DE v abp;go_wp2_with fail;refine bN A λI abq=>?_;have HZ:Yh (B.ax I F p s S (c+(j+1))/\aa F w7 I):=⟨P.o.later abq,T.o.trans (aa.ah F abq) (λ_ h=> .inl h)⟩;clear A abq;go_wp2;go_roundw;case rel=>exact⟨j+1,by omega,by go_num,HZ.o⟩
    case measure=>simp [intOf];omega
  .obtain rfl:j=s:=(by omega);have wq:¬(j:Int)<(j:Int):=(by omega);have R:Yh (B.ax wr F p j S (c+j)/\aa F w wr):=⟨sW.o,(aa.ah F FA.o).trans C1.o (λ_ h=> .inl h)⟩;go_wp2_with fail;refine bN el λw8 YK=>?_;have TS:=YK.symm;clear YK;subst TS;go_wp2;go_ret;exact⟨rfl,R.o⟩
section
def Lw {S:DS} (h:G.begin S=0):G.busy=false:=by
 unfold SG.begin at h;split at h
 .exact absurd h (by decide)
 .split at h
  .exact absurd h (by decide)
  .rename_i q;simpa using q
def W5.under {w:World} {q:Nat} {F P F2 X O:Nat->Prop} {p r s c:Nat} {S b:DS} {j k l m:Value} {f:List PI} {i:List PT} {rs:List RI} {us:List RJ} (h:W5 w q F P F2 X O p r s S b c j k l m f i rs us) (g:Nat) (a:F g\/P g\/F2 g\/X g\/O g):g<w.heap.size:=by
 rcases a with a|a|a|a|a
 .exact h.pw.d.lt g a
 .exact h.pw.lt g a
 .exact h.rw.e.lt g a
 .exact h.rw.lt g a
 .exact h.pp g a
section
variable {w w':World} {q:Nat} {F P F2 X O A:Nat->Prop} {p r s c N:Nat} {S:DS} {v1 v2 v3 v4:Value} {ss:List PI} {ts:List PT} {rs:List RI} {us:List RJ}
end
end
section
section
variable {w w':World} {F:Nat->Prop} {p r s c:Nat} {S S':DS} {L:LG} {x:Int}
def Ph (w:World) (F:Nat->Prop) (p s c:Nat) (S:DS) (e:Ending) (w':World):Prop:=∃x S' cR,cR<=c+261/\j1 S s x S'/\aa F w w'/\((x≠0/\e= .returned (.tuple #[.pointer none,iV x])/\B.ax w' (more F w w') p s S' cR)\/(x=0/\∃q l m L F',tp S s L/\e= .returned (.tuple #[pQ q,iV 0])/\(∀k,F' k->more F w w' k)/\w.heap.size<=q/\w.heap.size<=l/\w.heap.size<=m/\it w' F' p s cR q l m S' ⟨cE (S.now 0),L, [],false⟩))
def AO (h:B.ax w F p s S c) (dC:S.fL) (aU:S.puts.length+6000<=4000000000000):
  Calls prog 18 #[pQ p] w λe w'=>Ph w F p s c S e w':=by
 by_cases jc:S.fuse=0\/¬mM (S.now 0) s
 .have rG:∀x,j1 S s x S->x≠0:=λx j e=>by
   rcases j with ⟨_,n,_⟩|⟨a,b,_⟩
   .exact n e
   .exact jc.elim b (λh=>h a)
  refine(OY h dC (by omega) jc).mono ?_;rintro e w' ⟨x,rfl,d,f,i⟩;exact⟨x,S,c+1,by omega,d,i, .inl ⟨rG x d,rfl,f.more⟩⟩
 .have qL:=Classical.byContradiction (λe=>jc (.inr e));refine(Pc h dC aU (λe=>jc (.inl e)) qL).mono ?_;rintro e w' ⟨x,S',g,d,f⟩;exact⟨x,S',g,by have:=ky qL;omega,f⟩
def Lx (h:aC w F r s S) (dC:S.fL) (aU:S.puts.length+6000<=4000000000000):
  Calls prog 68 #[pQ r] w λe w'=>eI w F r s S e w':=by
 by_cases a:S.fuse=0
 .exact Iq h a
 .exact Ir h a dC aU
def nX {home:Nat}:∀{ms:CM} {S:DS},(aE S s home ms).2.life=S.life
 | [],_=>rfl
 |q :: qs,S=>by
  have a:=kD S s ((home+q.1:Nat):Int) 512 q.2;unfold aE;split
  .exact a
  .exact nX.trans a
def TT (S:DS) (s:Nat) (f n:Int):(bA S s f n).2=S\/(bA S s f n).2.life=wrap64 (S.life+1):=by
 unfold bA;split
 .exact .inl rfl
 .split
  .exact .inr rfl
  .split
   .exact .inr rfl
   .exact .inr (fX _ _)
def II {y:LY} {ov:CM} {rs:List (List Int)}:(eu S s y ov rs).2.life=S.life:=by
 unfold eu;split
 .rfl
 .split
  .exact nX
  .exact(fX _ _).trans nX
def TU:(L.start S s).2.1.life=S.life:=by
 unfold LG.start;split
 .rfl
 .split
  .rfl
  .split <;> exact iU _ _ _ _
def j1.life (h:j1 S s x S'):(S'=S/\x≠0)\/S'.life=wrap64 (S.life+1):=by
 rcases h with ⟨_,n,rfl⟩|⟨qL,d,k⟩
 .exact .inl ⟨rfl,n⟩
 .rcases k with ⟨_,n,rfl⟩|⟨c,rs,hd,FB,k⟩
  .exact(TT S s 1 (((cE (S.now 0)).log:Nat):Int)).imp (λh=>⟨h,n⟩) id
  .refine .inr ?_;have a:(bA S s 1 (((cE (S.now 0)).log:Nat):Int)).2.life=wrap64 (S.life+1):=by
    obtain⟨_,_,_,e⟩:=mb (f:=1) c;have b:bA S s 1 (((cE (S.now 0)).log:Nat):Int)=S.take.fl s:=e;rw [b];exact fX _ _
   rcases k with ⟨_,_,rfl⟩|⟨ov,uW,k⟩
   .exact a
   .rcases k with ⟨_,_,rfl⟩|⟨_,_,rfl⟩
    .exact II.trans a
    .exact TU.trans (II.trans a)
def AP {g:Nat->DS->Int×DS} (a:∀j T,(g j T).2.life=T.life):∀k,(cB S g k).2.life=S.life
 |0=>rfl
 |k+1=>by
  have:=AP a k;unfold cB;split
  .exact this
  .exact(a k _).trans this
def Ly (S:DS) (s:Nat) (f n:Int):(cD S s f n).2.life=S.life\/(cD S s f n).2.life=wrap64 (S.life+1):=by
 unfold cD;split
 .exact .inl rfl
 .refine .inr ?_;have a:(bE S.take s f.toNat (n.toNat+2)).2.life=wrap64 (S.life+1):=AP (λ_ _=>kD _ _ _ _ _) _;have b:(cN S.take s f.toNat n.toNat).2.life=wrap64 (S.life+1):=by
   unfold cN;split
   .exact a
   .exact(fX _ _).trans a
  split
  .exact b
  .exact(iU _ _ _ _).trans b
def uO (S:DS) (s a n:Nat):(eC S s a n).2.life=S.life:=by
 unfold eC;split
 .exact nX
 .exact(fX _ _).trans nX
def Lz (S:DS) (s:Nat) (a b c:Int):(bY S s a b c).2=S\/(bY S s a b c).2.life=wrap64 (S.life+1)\/(bY S s a b c).2.life=wrap64 (wrap64 (S.life+1)+1):=by
 unfold bY;split
 .exact .inl rfl
 .split
  .refine .inr ?_;have e:(mg S s).2.life=wrap64 (S.life+1):=uO S.take s 0 1;have f:(ni S s).2.life=wrap64 (S.life+1):=(uO (mg S s).2 s 1 (s-1)).trans e;have d:(jT S s b.toNat).2.life=wrap64 (S.life+1)\/(jT S s b.toNat).2.life=wrap64 (wrap64 (S.life+1)+1):=by
    have:=Ly (ni S s).2 s 1 (b.toNat:Int);rw [f] at this;exact this
   have g:(mh S s b.toNat c.toNat).2.life=(jT S s b.toNat).2.life:=kD _ _ _ _ _;unfold lL;split
   .exact .inl e
   .split
    .exact .inl f
    .split
     .exact d
     .split
      .rw [g];exact d
      .rw [fX,g];exact d
  .exact .inl rfl
def AQ (h:L.life<S.life):L.dead S=true:=by
 unfold LG.dead;have:(S.life != L.life)=true:=by rw [gB];omega
 rw [this,Bool.or_true]
def TV (S S':DS) (rs:List RI):Prop:=∀R∈rs,R.G.L.dead S'=false->R.G.L.dead S=false/\∀b,b<R.G.y.blocks->S'.now (R.G.y.home+b)=S.now (R.G.y.home+b)
def Lk.YM (h:Lk S s N ss ts rs us):∀R∈rs,R.G.L.life<=S.life:=λR c=>by
 obtain⟨i,b⟩:=List.mem_iff_getElem?.1 c;obtain⟨I,a⟩:∃I,ss[i]? =some I:=⟨ss[i]'(by rw [<-h.sl];exact(mP.1 b).1),List.getElem?_eq_getElem _⟩;rw [h.sg i I R a b];exact(h.inv.ol I.G.L (List.mem_map.2 ⟨I,gA a,rfl⟩)).2
def Lk.sZ (h:Lk S s N ss ts rs us) (a:S'=S\/S.life<S'.life):TV S S' rs:=λR b hd=>by
 rcases a with rfl|a
 .exact⟨hd,λ_ _=>rfl⟩
 .rw [AQ (by have:=h.YM R b;omega)] at hd;cases hd
def vW (h0:0<=S.life) (a:S.life<=N) (b:N<=3999999990000):wrap64 (S.life+1)=S.life+1/\wrap64 (wrap64 (S.life+1)+1)=S.life+2:=by
 have e:wrap64 (S.life+1)=S.life+1:=by unfold wrap64;omega
 refine⟨e,?_⟩;rw [e];unfold wrap64;omega
def Lk.opened (h:Lk S s N ss ts rs us) (f:N<=M) (c:V.Inv S' s (ss.map (λI=>I.G.L) ++ [I.G.L]) M) (l:R.G=I.G) (n:R.nv= .pointer none) (o:I.G.busy=false) (p:R.ps= []) (t:∀J∈ts,J.i<ss.length) (u:∀K∈us,K.i<rs.length) (EZ:S'.refused=S.refused):Lk S' s M (ss ++ [I]) ts (rs ++ [R]) us:=by
 have x:=h.sl;refine⟨by rw [ed,ed,h.sl];rfl,λm A C b a=>?_,h.tl,h.tg,by rw [List.map_append];exact c,λm A C b a=>?_,λC a=>?_,λm C K a e g v=>?_,EZ.trans h.rf⟩
 .rcases nh b with ⟨d,rfl⟩|⟨k,b⟩<;> rcases nh a with ⟨q,rfl⟩|⟨w,a⟩
  .exact l
  .omega
  .omega
  .exact h.sg m A C b a
 .rcases nh b with ⟨d,rfl⟩|⟨k,b⟩<;> rcases nh a with ⟨q,rfl⟩|⟨w,a⟩
  .refine .inl ⟨n,o,λj J r g=>?_⟩;have:=t J (gA r);omega
  .omega
  .omega
  .exact h.now m A C b a
 .rcases List.mem_append.1 a with a|a
  .exact j4 (h.cs C a) f
  .rw [List.mem_singleton.1 a,p];exact dV _
 .rcases nh a with ⟨d,rfl⟩|⟨k,a⟩
  .have:=u K e;omega
  .exact j4 (h.ct m C K a e g v) f
def PW.ti {P:Nat->Prop} (h:PW w F P p s S c ss ts):∀J∈ts,J.i<ss.length:=λJ b=>by
 obtain⟨I,a,_⟩:=h.tx J b;exact(mP.1 a).1
def RW.ui {X:Nat->Prop} (h:RW w F X r s S rs us):∀K∈us,K.i<rs.length:=λK b=>by
 obtain⟨I,a,_⟩:=h.tx K b;exact(mP.1 a).1
end
end
section
section
variable {w w':World} {q:Nat} {F P F2 X O A:Nat->Prop} {p r s c N:Nat} {S:DS} {v1 v2 v3 v4:Value} {ss:List PI} {ts:List PT} {rs:List RI} {us:List RJ}
def abr (h:W5 w q F P F2 X O p r s S S c v1 v2 v3 v4 ss ts rs us) (n:Lk S s N ss ts rs us) (f:∀g,(F g\/P g\/F2 g\/X g\/O g)->A g) (h1:ss.length<=N) (h2:ts.length<=N) (hc:c<=5000*N) (hN:N<=3999999990000):
  Calls prog 25 #[pV q] w λe w'=>e= .returned (.bool true)/\ec w w' q A p r s N:=by
 obtain⟨Ms,l1,l2,c0,c1⟩:=eK n.inv.p6 (B.wu h.pw.d) (nO h.rw.e) h.c0 h.c1;have ho:=AO h.pw.d n.inv.qf (by omega);have u:=(λ(j:World) (hd:aC j F2 r s S)=>Lx hd n.inv.qf (by omega));obtain⟨wl1,wl2⟩:=vW n.inv.l0 n.inv.lt hN;obtain⟨l,o,Fw⟩:=kH h n h.under;clear h n;go_in;go_wp2_with fail;refine bN l1 λw1 bL=>?_;have jP:=bL.symm;clear bL l1;subst jP;go_wp2_with fail;refine bN l2 λw1 bL=>?_;have jP:=bL.symm;clear bL l2;subst jP;go_wp2_with fail;refine ho.mono ?_;rintro e j ⟨x,S',cR,hcR,mi,aY,IJ⟩;have hS:S'=S\/S.life<S'.life:=mi.life.imp (λh=>h.1) (λh=>by omega);have H:x=0->S.life<S'.life:=λe=>mi.life.elim (λh=>absurd e h.2) (λh=>by omega);obtain⟨ev,EZ,z,C⟩:=cO aY.size mi.rf mi ((o.sZ hS));have t:=(o.inv.fA (by omega) mi);have pd:aa (λg=>F g\/P g) w j:=aY.mono (λg h=> .inl h);clear ho mi hS;rcases IJ with ⟨b,rfl,cI⟩|⟨b,q0,l0,m0,L,F',mV,rfl,YN,XN,we,hm0,lu⟩
 .have nY:=l.pw.lN (λg h=>h) cI aY;have io:=l.prog nY pd (λg h=>h) rfl rfl;obtain⟨J,IH,fd,ig⟩:=cO (u j io.rw.e) io.c1 io pd;clear nY io cI aY pd c0 c1;go_wp2_with fail;refine J.mono ?_;rintro e i ⟨y,S2,Is,aZ,LA⟩;obtain⟨e1,e2⟩:=z.same Is;subst e1;subst e2;clear Is J;rcases LA with ⟨_,rfl,yv⟩|⟨rG,_⟩
  .have nZ:=fd.rw.lN (λg h=>h) yv aZ C;have mX:aa (λg=>F2 g\/X g) j i:=aZ.mono (λg h=> .inl h);have iG:=fd.doc nZ mX (λg h=>h) (λg h=> .inl h) rfl rfl;have kv:=ai (bi i.heap.size i);have uP:=iG.later kv;obtain⟨U,W,D,E⟩:=cO (B.wu uP.pw.d) (nO uP.rw.e) iG.c0 iG.c1;have uQ:=(((ig).mono (λg a=>f g (by rcases a with a|a;exact .inl a;exact .inr (.inl a)))).trans mX (λg a=> .inl (f g (by rcases a with a|a;exact .inr (.inr (.inl a));exact .inr (.inr (.inr (.inl a))))))).trans (aa.ah (λ_=>False) kv) (λ_ h=>h.elim);have Y:(ec w i.drew q A p r s N):=⟨λg=>A g\/w.heap.size<=g,⟨_,_,_,_,_,_,cR,_,_,_,_,_,_,_,_,uP,o.TQ (M:=N+2) (by omega) ((t.1 b).more (by omega)) EZ,λg a=>(by
    rcases a with (a|a)|a|(a|a)|a|a
    .exact .inl (f g (.inl a))
    .exact .inr a.1
    .exact .inl (f g (.inr (.inl a)))
    .exact .inl (f g (.inr (.inr (.inl a))))
    .exact .inr (by omega)
    .exact .inl (f g (.inr (.inr (.inr (.inl a)))))
    .exact .inl (f g (.inr (.inr (.inr (.inr a)))))),by omega,by omega,by omega⟩,uQ,λ_ h=>h⟩
   clear nZ mX iG uP kv uQ yv aZ IH;go_wp2_with fail;go_region_held3 (λw'=>w'.cell? (aD q 0)=some (pV p)/\w'.cell? (aD q 1)=some (pV r))
    (exact⟨D,E⟩)
    (first
     |(go_at_call 22;refine U.mono ?_;rintro e w4 ⟨rfl,px⟩;have EP:=px.symm;clear px;subst EP)
     |(go_at_call 23;refine W.mono ?_;rintro e w5 ⟨rfl,Jg⟩;have Lv:=Jg.symm;clear Jg;subst Lv))
   clear U W D E;go_wp2;go_ret;exact⟨by simp,Y⟩
  .exact absurd rG b
 .subst b;have H:=H rfl;have io:=l.prog (l.pw.lN YN lu.d aY) pd YN rfl rfl;obtain⟨J,IH,nq,nl,nm,fd,ig,HPN,v⟩:=MZ (u j io.rw.e) io.c1 lu.st.lt lu.lp.lt lu.ch.lt io pd (l.pw.push YN lu XN we hm0 aY) mV;clear io lu aY pd c0 c1 mV;go_wp2_with fail;refine J.mono ?_;rintro e i ⟨y,S2,Is,aZ,LA⟩;obtain⟨e1,e2⟩:=z.same Is;subst e1;subst e2;clear Is J;rcases LA with ⟨rG,_⟩|⟨_,k0,T,L2,F3,X2,afJ,rfl,Sg,MF,yv,vO⟩
  .exact absurd rfl rG
  .obtain rfl:=v.same afJ;have Q:=fd.rw.push (I:=⟨k0,T, .slice none 0 0, [],0, .pointer none,⟨cE (S.now 0),L, [],false⟩⟩) Sg MF yv vO rfl aZ (λK hK=>AQ (by have:=o.YM K hK;omega));have mX:aa (λg=>F2 g\/X g) j i:=aZ.mono (λg h=> .inl h);have iG:=fd.doc (fd.rw.lN Sg yv aZ C) mX Sg (λg h=> .inl h) rfl rfl;have z2:j.heap.size<=i.drew.heap.size:=aZ.size;have lU:∀g,w.heap.size<=g->¬(F2 g\/X g\/O g):=λg a b=>by have:=Fw g (by rcases b with b|b|b;exact .inr (.inr (.inl b));exact .inr (.inr (.inr (.inl b)));exact .inr (.inr (.inr (.inr b))));omega
   have k:∀g,w.heap.size<=g->¬P g:=λg a b=>by have:=Fw g (.inr (.inl b));omega
   have afK:=HPN.aw aZ (λg a b=>fd.ad g (.inl a) (.inl b)) (λg a b=>by
    rcases a with a|a
    .exact fd.ad g (.inr a) (.inl b)
    .exact lU g (by omega) (.inl b))
   have kv:=ai (bi i.heap.size i);have G:∀g,X2 g->g<i.drew.heap.size:=vO.lt;have B7:=(((ig).mono (λg a=>f g (by rcases a with a|a;exact .inl a;exact .inr (.inl a)))).trans mX (λg a=> .inl (f g (by rcases a with a|a;exact .inr (.inr (.inl a));exact .inr (.inr (.inr (.inl a))))))).trans (aa.ah (λ_=>False) kv) (λ_ h=>h.elim);have uP:=iG.later kv;obtain⟨U,W,D,E,LB,HPd,Wd,Z⟩:=xq (B.wu uP.pw.d) (nO uP.rw.e) iG.c0 iG.c1 uP ((afK.later kv)) ((Q.later kv)) B7;clear Q mX iG uP afK yv aZ vO IH afJ kv B7;go_wp2_with fail;go_region_held3 (λw'=>w'.cell? (aD q 0)=some (pV p)/\w'.cell? (aD q 1)=some (pV r))
    (exact⟨D,E⟩)
    (first
     |(go_at_call 22;refine U.mono ?_;rintro e w4 ⟨rfl,px⟩;have EP:=px.symm;clear px;subst EP)
     |(go_at_call 23;refine W.mono ?_;rintro e w5 ⟨rfl,Jg⟩;have Lv:=Jg.symm;clear Jg;subst Lv))
   clear U W D E;generalize i.drew=Vd at*;obtain⟨g4',D8,V4,wF,Ow,xG,dW⟩:=LB.afA HPd (λg a b=>by
    rcases a with a|a
    .rcases b with b|b|b
     .exact LB.ad g (.inr a) (.inl b)
     .exact LB.ad g (.inr a) (.inr b)
     .exact LB.oa g b (.inr a)
    .rcases b with b|b
     .rcases Sg g b with b|b
      .exact lU g (by omega) (.inl b)
      .omega
     .exact lU g (by omega) (.inr b)) (by omega)
   have By:=LB.c2;have q4:=bK Ow;have f4:=ae Ow 2;obtain⟨V5,m⟩:=bQ (V4.setCell ⟨q,2,none⟩ (.slice (some ⟨g4',0,none⟩) (ss.length+1) D8));have Pg:V5.heap.size=V4.heap.size:=(by rw [m];simp);rw [<-m] at xG dW;have afL:=Wd.aw dW (λg a b=>LB.od g b (.inl a)) (λg a b=>by
    rcases a with a|a
    .exact LB.od g b (.inr a)
    .have:=MF g a;exact lU g (by omega) (.inr (.inr b)))
   obtain⟨g5',NO,V6,nM,nR,Fu,jE⟩:=xG.afB afL (λg a b=>by
    rcases a with a|a
    .rcases b with b|b|b
     .exact xG.ad g (.inl b) (.inr a)
     .exact xG.ad g (.inr b) (.inr a)
     .exact xG.od g b (.inr a)
    .have a1:=MF g a;have a2:=G g a;rcases b with b|(b|b)|(b|b)
     .have:=fd.under g (.inl b);omega
     .exact k g (by omega) b
     .omega
     .exact lU g (by omega) (.inr (.inr b))
     .omega) (by have:=o.sl;omega)
   obtain⟨M8,q5,f5,z4⟩:=cO xG.c3 (fQ nR) (ae nR 3) dW.size;have uQ:=(Z.trans dW (λg a=> .inl (f g (.inr (.inr (.inr (.inr a))))))).trans jE (λg a=>by
    rcases a with a|a
    .exact .inl (f g (.inr (.inr (.inr (.inr a)))))
    .exact .inr (by omega))
   have Y:(ec w (V6.setCell ⟨q,3,none⟩ (.slice (some ⟨g5',0,none⟩) (rs.length+1) NO)) q A p r s N):=⟨λg=>A g\/w.heap.size<=g,⟨_,_,_,_,_,_,cR,_,_,_,_,_,_,_,_,Fu,o.opened (I:=⟨q0,l0,m0,⟨cE (S.now 0),L, [],false⟩⟩) (R:=⟨k0,T, .slice none 0 0, [],0, .pointer none,⟨cE (S.now 0),L, [],false⟩⟩) (M:=N+2) (by omega) ((t.2 (by trivial) L v).more (by omega)) rfl rfl rfl rfl l.pw.ti l.rw.ui EZ,λg a=>(by
    rcases a with a|(a|a)|a|(a|a)|((a|a)|a)
    .rcases YN g a with a|a
     .exact .inl (f g (.inl a))
     .exact .inr a.1
    .exact .inl (f g (.inr (.inl a)))
    .exact .inr (by omega)
    .rcases Sg g a with a|a
     .exact .inl (f g (.inr (.inr (.inl a))))
     .exact .inr (by omega)
    .exact .inl (f g (.inr (.inr (.inr (.inl a)))))
    .exact .inr (by have:=MF g a;omega)
    .exact .inl (f g (.inr (.inr (.inr (.inr a)))))
    .exact .inr (by omega)
    .exact .inr (by omega)),by rw [ed];show ss.length+1<=_;omega,by omega,by omega⟩,uQ,λ_ h=>h⟩
   rw [Pg] at nM;rw [m] at nM M8;have Hi:=wF;have Hk:=nM;clear lU k wF Ow xG dW afL nM nR Fu jE uQ G Sg MF YN;go_wp2_with (at_builtin;first|refine br rfl _ _ 30 rfl v1 (.slice (some (aD Vd.heap.size 0)) 1 1) _ rfl rfl Hi ?_|refine br rfl _ _ 31 rfl v2 (.slice (some (aD V4.heap.size 0)) 1 1) _ rfl rfl Hk ?_);go_wp2;go_ret;exact⟨rfl,Y⟩
end
end
section
def LC {B:Int} (h:Bytes d):Bytes (lx B d):=by
 unfold lx;split
 .exact LX B
 .exact h
def TW {B:Int}:(lx B d).length=512\/(lx B d).length=d.length:=by
 unfold lx;split
 .exact .inl (uT B)
 .exact .inr rfl
section
variable {w:World} {g:Nat} {c0 c1 c2 c3 c4 c5 c6 c7 c8:Value} {e:TypeId}
def i4 (h:w.heap[g]? =some (.cells #[c0,c1,c2,c3,c4,c5,c6,c7,c8] e (0,0))):w.cell? (aD g 0)=some c0/\w.cell? (aD g 1)=some c1/\w.cell? (aD g 2)=some c2/\w.cell? (aD g 3)=some c3/\w.cell? (aD g 4)=some c4/\w.cell? (aD g 5)=some c5/\w.cell? (aD g 6)=some c6/\w.cell? (aD g 7)=some c7/\w.cell? (aD g 8)=some c8:=
   ⟨aM h,bG h,bK h,fQ h,gH h,sk h,xp h,rC h,Dv h⟩
end
def Pi {T:TG} {S:DS} {b:Int} (e:CM.Ok T.puts) (a:∀x∈T.puts,x.1<G.y.blocks):(T.put G S b d).2.ended=T.ended/\(T.put G S b d).2.puts.length<=T.puts.length+1/\∀x∈(T.put G S b d).2.puts,x.1<G.y.blocks:=by
 unfold TG.put;split
 .exact⟨rfl,Nat.le_succ _,a⟩
 .rename_i q;split
  .exact⟨rfl,Nat.le_succ _,a⟩
  .split
   .exact⟨rfl,Nat.le_succ _,a⟩
   .split
    .exact⟨rfl,Nat.le_succ _,a⟩
    .obtain⟨_,_,_,f,g⟩:=iW (Decidable.of_not_not q);refine⟨rfl,?_,λx c=>?_⟩
     .show (CM.put T.puts b.toNat d).length<=_;rw [CM.sJ e];split <;> omega
     .rcases CM.qY c with rfl|c
      .show b.toNat<_;omega
      .exact a x c
def PW.afM {w w':World} {F P:Nat->Prop} {p s c c':Nat} {S:DS} {o:List PI} {r:List PT} {J:PT} {T':TG} (h:PW w F P p s S c o r) (f:o[J.i]? =some I) (u:r[j]? =some J) (nU:w'.heap[J.t]? =some (.cells (BO I.q J.n T') 98 (0,0))) (nr:Ch w' J.n T'.puts) (ph:∀x∈T'.puts,x.1<I.G.y.blocks) (hd:B.ax w' F p s S c') (k:aa (λg=>F g\/g=J.t\/g=J.n) w w'):PW w' F P p s S c' o (r.set j {J with T:=T'}):=by
 have b:=h.EY f;have e:=h.Lp u f;have bw:it w' F p s c' I.q I.l I.m S I.G:=⟨hd,b.st.aw k (λa=>by rcases a with a|a|a;exact b.nq a;exact e.tq a.symm;exact e.nq a.symm),b.lp.aw k (λa=>by rcases a with a|a|a;exact b.nl a;exact e.tl a.symm;exact e.nl a.symm),b.ch.aw k (λa=>by rcases a with a|a|a;exact b.nm a;exact e.tm a.symm;exact e.nm a.symm),b.nq,b.nl,b.nm,b.ql,b.qm,b.lm,b.lk,b.bg,b.hs,b.kb⟩;have:=h.on f u rfl rfl (λg d=> .inl d) bw nU nr ph (k.mono (λg d=>by rcases d with d|d|d;exact .inl d;exact .inr (.inr (.inr (.inr (.inl d))));exact .inr (.inr (.inr (.inr (.inr d))))));rwa [mN f] at this
section
variable {w w':World} {q:Nat} {F P F2 X O A:Nat->Prop} {p r s c N:Nat} {S:DS} {v1 v2 v3 v4:Value} {ss:List PI} {ts:List PT} {rs:List RI} {us:List RJ}
end
end
section
section
variable {w w':World} {q:Nat} {F P F2 X O A:Nat->Prop} {p r s c N:Nat} {S:DS} {v1 v2 v3 v4:Value} {ss:List PI} {ts:List PT} {rs:List RI} {us:List RJ}
def Dm (h:W5 w q F P F2 X O p r s S S c v1 v2 v3 v4 ss ts rs us) (hl:Lk S s N ss ts rs us) (E:∀g,(F g\/P g\/F2 g\/X g\/O g)->A g) (mt:∀g,A g->g<w.heap.size) (h1:ss.length<=N) (h2:ts.length<=N) (hc:c<=5000*N) (hN:N<=3999999990000) (kd ag Z BB:Int) (da:Option Addr) (dn dc:Nat) (pa:Option Addr) (pn pc:Nat) (x y z:Int) (AL:ag<=9223372036854775807) (d:List Int) (xw:∀W,aa A w W->Src W da dn d) (xI:Bytes d) (D0:dn<=140737488355328) (EI:kd=4\/kd=5\/kd=6\/kd=7\/kd=8\/kd=9\/kd=12):
  Calls prog 32 #[pV q, .agg (j3 kd ag Z BB da dn dc pa pn pc x y z)] w λe w'=>e= .returned (.bool true)/\ec w w' q A p r s N:=by
 obtain⟨W,hW⟩:=bQ (w.alloc (.cells (j3 kd ag Z BB da dn dc pa pn pc x y z) 41));have EU:bW w W:=by rw [hW];exact(bi w.heap.size w).alloc (bS _) _
 have B4:W.heap[w.heap.size]? =some (.cells (j3 kd ag Z BB da dn dc pa pn pc x y z) 41 (0,0)):=by rw [hW];exact heap_alloc_new _ _
 have Ie:W.heap.size=w.heap.size+1:=by rw [hW,World.size_alloc]
 have uo:¬A w.heap.size:=λv=>by have:=mt _ v;omega
 obtain⟨a3,c3,hv3⟩:=AJ h.o3;have TN:=h.later EU;have d0:W.cell? (aD w.heap.size 0)=some (iV kd):=aM B4;have d1:W.cell? (aD w.heap.size 1)=some (iV ag):=bG B4;have e4:=TN.c4;have tA:=λk=>AI (W.drewN k) ts.length ag AL (by omega);obtain⟨HW,U,C3,MJ⟩:=cO TN hl EU B4;rw [hv3] at e4;clear h hl TN EU B4;go_in;go_wp2_with fail;rw [<-hW];clear hW;go_quiet (first|(go_at_call 73;refine Calls.quiet_of_same (tA _)));rename_i nq _;have hq:bW W (W.drewN nq):=below_drewN (bi _ _) nq;have fP:=(HW.later hq);have uN:=(C3.trans (hq.mono (by omega)));have YC:(W.drewN nq).heap.size=w.heap.size+1:=Ie;have UU:=((hq.block w.heap.size (by omega)).trans MJ);clear HW C3 MJ tA hq d0 d1 e4 Ie;generalize W.drewN nq=V at*;have dV0:V.cell? (aD w.heap.size 0)=some (iV kd):=aM UU;have dV2:V.cell? (aD w.heap.size 2)=some (iV Z):=bK UU;have e4:=fP.c4;have e5:=fP.c5;by_cases q0:ts.length=0
 .have fO:bk ts.length ag= -1:=by unfold bk;rw [aG q0]
  rw [fO];go_wp2;go_ret;exact⟨rfl,ec.idle fP U E h1 h2 hc uN⟩
 .obtain⟨j,hj,YJ⟩:=TM (show 0<ts.length by omega) ag;rw [YJ];have Zr:¬(j:Int)<0:=by omega
  have YY:(j:Int)<(ts.length:Int):=by omega
  obtain⟨J,K,I,R,Q,H,D,Y,k1,k2,k3⟩:=fP.tx U hj;obtain⟨g3,cp3,TO,t3⟩:=vV (i:=j) fP.o3 (by rw [Bk,Q];rfl);obtain⟨g4,cp4,TP,t4⟩:=vV (i:=j) fP.o4 (by rw [Bk,H];rfl);rw [TO] at e4;rw [TP,U.tl] at e5;have BF:rs[K.i]? =some R:=by rw [k1];exact Y
  clear YJ q0;rcases EI with rfl|rfl|rfl|rfl|rfl|rfl|rfl
  .have Jm:∀(x0 x1 x2 x3 x4:Int) (wx:World),(Instr.field 65 (.agg #[iV x0,iV x1,iV x2,iV x3,iV x4]) 0).run prog wx= .ok (iV x0) wx:=λ_ _ _ _ _ _=>by kernel_rfl
   have e0:=fP.c0;have Ms:=U.inv.p6;have ou:=U.cs R (gA Y);have hld:(lx BB d).length<=140737488355328:=by
    have a1:=(xw w (aa.ah A (bi _ _))).1;rcases TW (B:=BB) (d:=d) with a2|a2 <;> omega
   have Bu:=LC (B:=BB) xI;have Yq:=xw;have rP:∀g,F g\/P g->g<V.heap.size:=λg a=>a.elim (fP.pw.d.lt g) (fP.pw.lt g);have Fw:=rP;have ZG:∀g,F2 g\/X g->g<V.heap.size:=λg a=>a.elim (fP.rw.e.lt g) (fP.rw.lt g);have HXl:=ZG;have AR:=fP.pw.Lp Q D;have nx:=Pi (G:=I.G) (S:=S) (b:=Z) (d:=lx BB d) AR.ch.ok AR.kb;obtain⟨_,_,_,_,⟨pt,pn'⟩,_⟩:=fP.pw.tx J (gA Q);clear dV0 dV2 xw rP ZG AR;obtain⟨y0,y1,y2,y3,y4,y5,y6,y7,y8⟩:=i4 UU;go_wp2_with fail;refine(lO 4 ag Z BB da dn dc pa pn pc x y z d V (Yq V (aa.ah A uN)) D0).mono ?_;rintro e V1 ⟨g1,rfl,py,YO,ar⟩;have K5:=fP.later ar;have e01:=K5.c0;obtain⟨I8,cQ,HW1,zv⟩:=cO (B.rh K5.pw.d (by omega) (by omega)) ar K5 YO;clear ar K5 YO y0 y1 y2 y3 y4 y5 y6 y7 y8 e0;go_wp2_with fail;refine I8.mono ?_;rintro e C ⟨rr,rfl,Jd,cI,bd⟩;have io:=HW1.prog (HW1.pw.lN (λg h=> .inl h) cI (aa.ah F bd)) (aa.ah _ bd) (λg h=> .inl h) rfl rfl;have oZ:=zv.agree (bd.block g1 zv.lt);have sO:=Wh (io.pw.EY D) (io.pw.Lp Q D) Z (some (aD g1 0)) (lx BB d).length (lx BB d).length (lx BB d) oZ.src hld Bu (by omega);have abu:=cQ.trans (bd.mono cQ.size);have TX:=(abu.block w.heap.size (by omega)).trans UU;obtain⟨z2,fd,xD,dP,VD⟩:=eK (bK TX) io oZ abu TX;clear I8 cI bd io oZ abu TX e01;unfold zY at sO;have HPu:=(λ(V4:World) (ts2:List PT) (c2:Nat) (ga:Nat) (hw:W5 V4 q F P F2 X O p r s S S c2 v1 v2 v3 v4 ss ts2 rs us) (be:ay V4 5 ga (lx BB d).length (bs (lx BB d)))=>Ss hw.rw.e (hw.rw.jS Y) (hw.rw.po H BF) Z (some (aD ga 0)) (lx BB d).length (lx BB d).length (lx BB d) be.src hld Bu (by omega) (by omega));unfold fI at HPu;rw [k2,k3] at HPu;generalize akT:J.T.put I.G S Z (lx BB d)=Pu at*;clear akT;go_wp2_with fail;refine sO.mono ?_;rintro e V3 ⟨rfl,IK,OV,hd3,aZ⟩;have pd:aa (λg=>F g\/P g) C V3:=aZ.mono (λg a=>by rcases a with a|a|a;exact .inl a;exact .inr (a▸pt);exact .inr (a▸pn'));have iG:=fd.prog (fd.pw.afM D Q IK OV nx.2.2 hd3 aZ) pd (λg h=> .inl h) rfl (gg (f:=λJ:PT=>pV J.t) Q rfl);have TY:=(pd.block w.heap.size (aq VD) (λv=>uo (E _ (by rcases v with v|v;exact .inl v;exact .inr (.inl v))))).trans VD;have rO:=xD.agree (pd.block g1 xD.lt (λv=>by have:=Fw g1 v;omega));obtain⟨y0,y1,y2,y3,y4,y5,y6,y7,y8⟩:=i4 TY;have B7:=((aa.ah A uN).trans (aa.ah (λ_=>False) dP) (λ_ h=>h.elim)).trans pd (λg a=> .inl (E g (by rcases a with a|a;exact .inl a;exact .inr (.inl a))));obtain⟨akU,HW3,VF,Jn,HA3,lB⟩:=jF (lO 4 ag Z BB da dn dc pa pn pc x y z d V3 (Yq V3 B7) D0) iG TY rO B7 (j4 dP.size pd.size);clear sO IK OV hd3 aZ pd iG TY rO B7 z2;have kv:=ai (bi V3.heap.size V3);have afP:=lO 4 ag Z BB da dn dc pa pn pc x y z d V3.drew (Yq V3.drew (HA3.trans (aa.ah (λ_=>False) kv) (λ_ h=>h.elim))) D0;have sW:=kv;have hzd:V3.drew.heap.size=V3.heap.size:=rfl;clear akU kv;go_wp2_with fail;go_region_held3 (λw'=>w'.cell? (aD w.heap.size 0)=some (iV 4)/\w'.cell? (aD w.heap.size 1)=some (iV ag)/\w'.cell? (aD w.heap.size 2)=some (iV Z)/\w'.cell? (aD w.heap.size 3)=some (iV BB)/\w'.cell? (aD w.heap.size 4)=some (.slice da dn dc)/\w'.cell? (aD w.heap.size 5)=some (.slice pa pn pc)/\w'.cell? (aD w.heap.size 6)=some (iV x)/\w'.cell? (aD w.heap.size 7)=some (iV y)/\w'.cell? (aD w.heap.size 8)=some (iV z))
    (first|exact⟨y0,y1,y2,y3,y4,y5,y6,y7,y8⟩|exact HZ4|exact HZ5)
    (first
     |(go_at_call 80;refine afP.mono ?_;rintro e V4 ⟨g4',rfl,Gy,MR,nV⟩;have fw:=sW.trans (nV.mono (bS _));have xG:=HW3.later fw;have wR:=HPu V4 _ _ g4' xG MR;have YP:=(fw.block w.heap.size (aq VF)).trans VF;have HZ4:=(i4 YP);have Ja:=xG;have XZ:=YP;have jV:=fw)
     |(go_at_call 82;refine wR.mono ?_;rintro e V5 ⟨rfl,⟨tv',KQ,Xp,afQ⟩,dX⟩;have HZ5:=(i4 ((dX.block w.heap.size (aq XZ) (λv=>uo (E _ (.inr (.inr (.inr (.inl (by rcases v with v|v;exact v▸(Ja.rw.po H BF).xt;exact(Ja.rw.po H BF).pl.row _ v)))))))).trans XZ))))
   obtain⟨VN,HA4,ws,i5⟩:=cO ((Jn.agree (jV.block g1 Jn.lt))) ((HA3.trans (aa.ah (λ_=>False) jV) (λ_ h=>h.elim))) jV.size (Ja.rw.po H BF);have afR:=Ja.rw.Lr BF H (K':={K with T:=Pu.2,tv:=tv',us:=KQ}) rfl rfl (X':=more X V4 V5) (λg h=> .inl h) (λg h=>h) (by rw [k3];exact Xp) afQ dX (λg a=>a.elim (λh=>i6 (Ja.rw.lt g h) dX.size) (λh=>h.2));have mX:aa (λg=>F2 g\/X g) V4 V5:=dX.mono (λg e=> .inr (by rcases e with e|e;exact e▸i5.xt;exact i5.pl.row g e));have PZ:=Ja.doc afR mX (λg h=> .inl h) (λg h=>h) rfl (gg (f:=λJ:RJ=>pV J.u) H rfl);have hL5:=U.upd (I':=I) (R':=R) (J':={J with T:=Pu.2}) (K':={K with T:=Pu.2,tv:=tv',us:=KQ}) (M:=N+2) D Y Q H rfl rfl rfl rfl rfl k3 rfl (.inl ⟨nx.1,rfl⟩) (by omega) (by rw [mN D];exact U.inv.more (by omega)) (by omega) (λhe=>by
    have YQ:=nx.1.symm.trans he;have a0:=U.ct J.i R K Y (gA H) k1 (by rw [k2];exact YQ);have a3:=i5.pu (by rw [k2];exact YQ);have a5:=nx.2.1;rw [(Xp.pu he),qC (ms:= []) rS Xp.nd (λ_ _=>rfl),<-k2,a3,(qC (ms:= []) rS i5.nd (λ_ _=>rfl))] at a5;have a6:([]:CM).length=0:=rfl;show R.ps.length+KQ.length<=_;omega) (.inl rfl) rfl
   rw [mN D,mN Y] at hL5;have YR:=(mX.block w.heap.size (aq XZ) (λv=>uo (E _ (by rcases v with v|v;exact .inr (.inr (.inl v));exact .inr (.inr (.inr (.inl v))))))).trans XZ;have YS:=VN.agree (mX.block g1 VN.lt (λv=>by have:=HXl g1 v;omega));obtain⟨y0,y1,y2,y3,y4,y5,y6,y7,y8⟩:=i4 YR;have abv:=HA4.trans mX (λg a=> .inl (E g (by rcases a with a|a;exact .inr (.inr (.inl a));exact .inr (.inr (.inr (.inl a))))));obtain⟨afS,TJ,HL5,HR5,HA5,pR⟩:=jF (lO 4 ag Z BB da dn dc pa pn pc x y z d V5 (Yq V5 abv) D0) PZ hL5 YS abv mX.size;clear wR Xp afQ dX i5 afR mX PZ hL5 YR YS abv;go_wp2_with fail;refine afS.mono ?_;rintro e V6 ⟨g6,rfl,hg6,wG,nI⟩;have lC:=pA (some (aD g1 0)) (some (aD g6 0)) (lx BB d).length (lx BB d).length (lx BB d).length (lx BB d) V6 hld (HR5.agree (nI.block g1 HR5.lt)).src wG.src;have xy:=nI;clear afS wG nI y0 y1 y2 y3 y4 y5 y6 y7 y8;go_wp2_with fail;refine bN lC λV7 xB=>?_;have abw:=xy.trans (xB.mono xy.size);have hW7:=TJ.later abw;obtain⟨IL,e07,HW7,FA⟩:=cO (B.rh hW7.pw.d (by omega) (by omega)) hW7.c0 hW7 abw;clear lC xB abw hW7;go_wp2_with fail;refine IL.mono ?_;rintro e V8 ⟨r8,rfl,hr8,oR,BS⟩;have hW8:=HW7.prog (HW7.pw.lN (λg h=> .inl h) oR (aa.ah F BS)) (aa.ah _ BS) (λg h=> .inl h) rfl rfl;have d6:(r8:Int)<=(rr:Int)+1:=(by omega);have akW:=uN.size;have HF:(ec w V8 q A p r s N):=⟨λg=>A g\/w.heap.size<=g,⟨F,P,F2,more X V4 V5,O,S,r8,v1,v2,v3,v4,ss,_,rs,_,hW8,HL5,λg a=>(by
     rcases a with a|a|a|(a|a)|a
     .exact .inl (E g (.inl a))
     .exact .inl (E g (.inr (.inl a)))
     .exact .inl (E g (.inr (.inr (.inl a))))
     .exact .inl (E g (.inr (.inr (.inr (.inl a)))))
     .exact .inr (by omega)
     .exact .inl (E g (.inr (.inr (.inr (.inr a)))))),by omega,by rw [List.length_set];omega,by omega⟩,(HA5.trans (aa.ah (λ_=>False) FA) (λ_ h=>h.elim)).trans (aa.ah (λ_=>False) BS) (λ_ h=>h.elim),λ_ h=>h⟩
   clear IL oR BS hW8;go_wp2;go_ret;exact⟨by simp,HF⟩
  .have Jm:∀(x0 x1 x2 x3 x4:Int) (wx:World),(Instr.field 65 (.agg #[iV x0,iV x1,iV x2,iV x3,iV x4]) 0).run prog wx= .ok (iV x0) wx:=λ_ _ _ _ _ _=>by kernel_rfl
   have e0:=fP.c0;have Ms:=U.inv.p6;have ou:=U.cs R (gA Y);have I8:=B.rh fP.pw.d (by omega) (by omega);have mV:J.T.refusal I.G S Z=0->(J.T.jZ I.G S Z.toNat).length=512:=λhz=>by
    obtain⟨_,_,_,h4,h5⟩:=iW hz;exact zU (fP.pw.EY D) (fP.pw.Lp Q D) Z.toNat (by omega)
   by_cases qc:J.T.refusal I.G S Z=0
   .have arV:=mV qc;go_wp2_with fail;refine I8.mono ?_;rintro e C ⟨rr,rfl,Jd,cI,bd⟩;have io:=fP.prog (fP.pw.lN (λg h=> .inl h) cI (aa.ah F bd)) (aa.ah _ bd) (λg h=> .inl h) rfl rfl;obtain⟨wq,e42,abx,fd,dP⟩:=eK (El (io.pw.EY D) (io.pw.Lp Q D) Z (by omega)) (dw (aa.ah (λ_=>False) bd) (λh=>h) e4) (dw (aa.ah (λ_=>False) bd) (λh=>h) dV2) io bd;clear I8 cI bd io;go_wp2_with fail;refine wq.mono ?_;rintro e V3 ⟨ho,hd3,aZ⟩;unfold vD at ho;rw [aB (λh=>h qc)] at ho;obtain⟨g3',rfl,arX,aV⟩:=ho;have TZ:=fd.pw.lN (λg h=> .inl h) hd3 aZ;have hkF:aa (λg=>F g\/P g) C V3:=aZ.mono (λg h=> .inl h);have iG:=fd.prog TZ hkF (λg h=> .inl h) rfl rfl;have mR:=Al iG.rw.e (iG.rw.jS Y) (iG.rw.po H BF) Z (by omega) (by omega);rw [k2,k3] at mR;have akX:=dw aZ (λv=>uo (E _ (.inl v))) abx;have HW3:=iG;have lS:=aZ;clear wq hd3 aZ TZ hkF iG;go_wp2_with fail;refine mR.mono ?_;rintro e V4 ⟨ho,fw⟩;unfold rk at ho;rw [aB (λh=>h qc)] at ho;obtain⟨g4',rfl,arY,wR⟩:=ho;have lC:=pA (some (aD g3' 0)) (some (aD g4' 0)) 512 512 512 (J.T.jZ I.G S Z.toNat) V4 (by omega) (by
     have h9:=(aV.aw (fw.block g3' aV.lt)).src (o:=0) (n:=512) (by omega);rwa [List.drop_zero,nz (by omega)] at h9) (by have h9:=wR.src;rwa [mV qc] at h9)
    have jV:=fw;have Ja:=HW3.later fw;clear mR fw;go_wp2_with fail;refine bN lC λV5 fa=>?_;have PZ:=Ja.later fa;obtain⟨IL,e05,TJ,jr⟩:=cO (B.rh PZ.pw.d (by omega) (by omega)) PZ.c0 PZ fa;clear lC fa PZ;go_wp2_with fail;refine IL.mono ?_;rintro e V6 ⟨r6,rfl,I3,pI,nI⟩;have Fu:=TJ.prog (TJ.pw.lN (λg h=> .inl h) pI (aa.ah F nI)) (aa.ah _ nI) (λg h=> .inl h) rfl rfl;have d6:(r6:Int)<=(rr:Int)+1:=(by omega);have HF:(ec w V6 q A p r s N):=⟨A,⟨F,P,F2,X,O,S,r6,v1,v2,v3,v4,ss,ts,rs,us,Fu,U.more (by omega),E,by omega,by omega,by omega⟩,((((((aa.ah A uN).trans (aa.ah (λ_=>False) dP) (λ_ h=>h.elim)).trans lS (λg a=> .inl (E g (.inl a)))).trans (aa.ah (λ_=>False) jV) (λ_ h=>h.elim)).trans (aa.ah (λ_=>False) jr) (λ_ h=>h.elim)).trans (aa.ah (λ_=>False) nI) (λ_ h=>h.elim)),λ_ h=> .inl h⟩;clear IL pI nI Fu;go_wp2;go_ret;exact⟨by simp,HF⟩
   .have hqq:=qc;go_wp2_with fail;refine I8.mono ?_;rintro e C ⟨rr,rfl,Jd,cI,bd⟩;have io:=fP.prog (fP.pw.lN (λg h=> .inl h) cI (aa.ah F bd)) (aa.ah _ bd) (λg h=> .inl h) rfl rfl;obtain⟨wq,e42,abx,fd,dP⟩:=eK (El (io.pw.EY D) (io.pw.Lp Q D) Z (by omega)) (dw (aa.ah (λ_=>False) bd) (λh=>h) e4) (dw (aa.ah (λ_=>False) bd) (λh=>h) dV2) io bd;clear I8 cI bd io;go_wp2_with fail;refine wq.mono ?_;rintro e V3 ⟨ho,hd3,aZ⟩;unfold vD at ho;rw [aG qc] at ho;subst ho;have TZ:=fd.pw.lN (λg h=> .inl h) hd3 aZ;have hkF:aa (λg=>F g\/P g) C V3:=aZ.mono (λg h=> .inl h);have iG:=fd.prog TZ hkF (λg h=> .inl h) rfl rfl;have mR:=Al iG.rw.e (iG.rw.jS Y) (iG.rw.po H BF) Z (by omega) (by omega);rw [k2,k3] at mR;have akX:=dw aZ (λv=>uo (E _ (.inl v))) abx;have HW3:=iG;have lS:=aZ;clear wq hd3 aZ TZ hkF iG;go_wp2_with fail;refine mR.mono ?_;rintro e V4 ⟨ho,fw⟩;unfold rk at ho;rw [aG qc] at ho;subst ho;have lC:Calls prog 21 #[.slice none 0 0, .slice none 0 0] V4 λe w'=>e= .returned (.bool true)/\bW V4 w':=(Cb none none 0 0 V4).mono (by rintro e w' ⟨rfl,rfl⟩;exact⟨rfl,bi _ _⟩);have jV:=fw;have Ja:=HW3.later fw;clear mR fw;go_wp2_with fail;refine bN lC λV5 fa=>?_;have PZ:=Ja.later fa;obtain⟨IL,e05,TJ,jr⟩:=cO (B.rh PZ.pw.d (by omega) (by omega)) PZ.c0 PZ fa;clear lC fa PZ;go_wp2_with fail;refine IL.mono ?_;rintro e V6 ⟨r6,rfl,I3,pI,nI⟩;have Fu:=TJ.prog (TJ.pw.lN (λg h=> .inl h) pI (aa.ah F nI)) (aa.ah _ nI) (λg h=> .inl h) rfl rfl;have d6:(r6:Int)<=(rr:Int)+1:=(by omega);have HF:(ec w V6 q A p r s N):=⟨A,⟨F,P,F2,X,O,S,r6,v1,v2,v3,v4,ss,ts,rs,us,Fu,U.more (by omega),E,by omega,by omega,by omega⟩,((((((aa.ah A uN).trans (aa.ah (λ_=>False) dP) (λ_ h=>h.elim)).trans lS (λg a=> .inl (E g (.inl a)))).trans (aa.ah (λ_=>False) jV) (λ_ h=>h.elim)).trans (aa.ah (λ_=>False) jr) (λ_ h=>h.elim)).trans (aa.ah (λ_=>False) nI) (λ_ h=>h.elim)),λ_ h=> .inl h⟩;clear IL pI nI Fu;go_wp2;go_ret;exact⟨by simp,HF⟩
  .have bw:=nS (fP.pw.EY D) (fP.pw.Lp Q D);have LD:=λ(C:World) (hb:bW V C)=>kt (fP.later hb).rw.e ((fP.later hb).rw.jS Y) ((fP.later hb).rw.po H BF).tx;rw [k2,k3] at LD;have OI:=LD;clear LD;go_wp2_with fail;refine bN bw λC bd=>?_;have fy:=OI C bd;have dP:=bd;clear bw bd;go_wp2_with fail;refine bN fy λV3 bF=>?_;have gd:=(dP.trans (bF.mono dP.size));clear fy bF;go_wp2;go_ret;exact⟨by simp,ec.idle (fP.later gd) U E h1 h2 hc (uN.trans (gd.mono uN.size))⟩
  .have hsp:=CU (fP.pw.EY D) (fP.pw.Lp Q D) Z;have HSp:=(λ(C:World) (hw:W5 C q F P F2 X O p r s S S c v1 v2 v3 v4 ss (ts.set j {J with T:=(J.T.mI I.G S Z).2}) rs us)=>KD hw.rw.e (hw.rw.jS Y) (hw.rw.po H BF).tx Z);have lJ:(J.T.mI I.G S Z).2.ended=J.T.ended/\(J.T.mI I.G S Z).2.puts=J.T.puts:=by
    unfold TG.mI;split
    .exact⟨rfl,rfl⟩
    .split <;> exact⟨rfl,rfl⟩
   rw [k2,k3] at HSp;generalize J.T.mI I.G S Z=Sp at*;go_wp2_with fail;refine fR hsp λC bd Jf=>?_;have AR:=fP.pw.Lp Q D;have aY:aa (λg=>g=J.t\/g=J.n) V C:=Jf.mono (λ_ h=> .inl h);have nY:=fP.pw.Lr D Q (T':=Sp.2) bd (by rw [lJ.2];exact AR.ch.aw Jf (λe=>AR.tn e.symm)) (by rw [lJ.2];exact AR.kb) aY;obtain⟨_,_,_,_,⟨pt,pn'⟩,_⟩:=fP.pw.tx J (gA Q);have pd:aa (λg=>F g\/P g) V C:=Jf.mono (λg e=> .inr (e▸pt));have io:=fP.prog nY pd (λg a=> .inl a) rfl (gg (f:=λJ:PT=>pV J.t) Q rfl);have fy:=HSp C io;have ar0:=dw pd (λv=>uo (E _ (by rcases v with v|v;exact .inl v;exact .inr (.inl v)))) dV2;have fd:=io;have ig:=pd;clear hsp bd Jf aY nY pd io;go_wp2_with fail;refine fR fy λV3 bF aZ=>?_;have i5:=fd.rw.po H BF;have nZ:=fd.rw.Lr BF H (K':={K with T:=Sp.2}) rfl rfl (λg h=>h) (λg h=> .inl h) ⟨bF,i5.xt,i5.pl.other i5.tx (by decide) (by decide) aZ,i5.nd,λhe=>by
    show Sp.2.puts=_;rw [lJ.2,<-k2];exact i5.pu (by rw [k2,<-lJ.1];exact he),i5.kb,i5.Em⟩ (.inl rfl) (aZ.mono (λ_ h=> .inl h)) (λg a=>i6 (fd.rw.lt g a) aZ.size)
   have mX:aa (λg=>F2 g\/X g) C V3:=aZ.mono (λg e=> .inr (e▸i5.xt));have iG:=fd.doc nZ mX (λg h=> .inl h) (λg h=> .inl h) rfl (gg (f:=λJ:RJ=>pV J.u) H rfl);have MX:=U.Lr (J':={J with T:=Sp.2}) (K':={K with T:=Sp.2}) Q H rfl rfl rfl rfl lJ.1 (by show K.us.length<=_;omega);have uQ:=((aa.ah A uN).trans ig (λg a=> .inl (E g (by rcases a with a|a;exact .inl a;exact .inr (.inl a))))).trans mX (λg a=> .inl (E g (by rcases a with a|a;exact .inr (.inr (.inl a));exact .inr (.inr (.inr (.inl a))))));have HF:(ec w V3 q A p r s N):=⟨A,⟨F,P,F2,X,O,S,c,v1,v2,v3,v4,ss,_,rs,_,iG,MX.more (by omega),E,by omega,by rw [List.length_set];omega,by omega⟩,uQ,λ_ h=> .inl h⟩;clear fy bF aZ i5 nZ mX iG MX uQ;go_wp2;go_ret;exact⟨by simp,HF⟩
  .by_cases qs:J.T.state I.G S=0
   .obtain⟨Ms,dC,j0,AR,uV,i5,ou⟩:=nA U.inv.p6 U.inv.qf (fP.pw.EY D) (fP.pw.Lp Q D) (fP.rw.jS Y) (fP.rw.po H BF) (U.cs R (gA Y));have hi:(ss.map (λI=>I.G.L))[J.i]? =some I.G.L:=(by rw [Bk,D];rfl);have Xq:∀q∈I.G.ov,I.G.y.home+q.1<s/\q.2.length=512/\Bytes q.2:=λx v=>by
     have a1:=j0.kb x v;have a2:=j0.hs;exact⟨by omega,(j0.ch.len x v).2⟩
    have BT:I.G.L.f+2+I.G.L.n<=I.G.y.home:=(by have:=uV.lh;rw [k3] at this;exact this);have fB:=λhu=>by
     obtain⟨hd,hb⟩:=Dl hu;obtain⟨ha,hf⟩:=Lt hd;exact((U.inv.al I.G.L (gA hi) ha hf).1 hb).2
    obtain⟨f1,hinv,dL,lJ,f5⟩:=B6 (T:=J.T) U.inv hi j0.bg Xq j0.ch.small BT (λx v=>(AR.ch.len x v).2.2) qs;have EZ:=Lm (T:=J.T) (G:=I.G) (S:=S) (s:=s) (λx v=>(Xq x v).1) (by have:=j0.lk.n1;omega) (by have:=j0.lk.s;omega);have UI:J.T.puts.length<=16:=by
     have a1:=i5.pu (by rw [k2];exact lJ);have a3:=i5.Em;rw [<-k2,a1,(qC (ms:= []) rS i5.nd (λ_ _=>rfl))];show 0+_<=_;omega
    have Wf:=U.ct J.i R K Y (gA H) k1 (by rw [k2];exact lJ);have Ek:=KK j0 AR UI dC (by omega);have HCm:=(λ(C:World) (F3:Nat->Prop) (S':DS) (c2:Nat) (Xr:List PI) (ts2:List PT) (hw:W5 C q F3 P F2 X O p r s S' S c2 v1 v2 v3 v4 Xr ts2 rs us)=>H8 hw.rw.e (hw.rw.jS Y) (hw.rw.po H BF) (hw.rw.r3 R (gA Y) K (gA H)) dC (by rw [k3];exact fB) (by omega) (by omega));have HI2:=hinv;have aby:=dL;rw [k3,k2] at HCm;unfold Sj at Ek;unfold il at HCm;have hPu:(J.T.bI I.G S s).2.2.2.ended=J.T.ended/\(J.T.bI I.G S s).2.2.1.busy=I.G.busy\/J.T.ended=false/\(J.T.bI I.G S s).2.2.2.ended=true/\(J.T.bI I.G S s).2.2.1.busy=false:=f5.imp (λh=>⟨by rw [h.1],h.2⟩) (λh=>⟨lJ,by rw [h.1];rfl,h.2⟩);clear hinv dL Xq BT fB uV dC i5 f5 qs UI;generalize J.T.bI I.G S s=Cm at*;go_wp2_with fail;refine Ek.mono ?_;rintro e C ⟨rfl,⟨lu,Am⟩,aY⟩;obtain⟨_,_,_,⟨pq,pl,pm⟩,_⟩:=fP.pw.st I (gA D);obtain⟨_,_,_,_,⟨pt,pn'⟩,_⟩:=fP.pw.tx J (gA Q);have nY:=fP.pw.on D Q rfl (G':=Cm.2.2.1) (T':=Cm.2.2.2) f1 (λg h=>h) lu Am.tx Am.ch Am.kb (aY.mono (λg a=>by rcases a with a|a|a|a|a|a;exact .inl a;exact .inr (.inr (.inl a));exact .inr (.inr (.inr (.inl a)));exact .inr (.inr (.inr (.inr (.inl a))));exact .inr (.inr (.inr (.inr (.inr a))));exact .inr (.inl a)));have pd:aa (λg=>F g\/P g) V C:=aY.mono (λg a=>by rcases a with a|a|a|a|a|a;exact .inl a;exact .inr (a▸pl);exact .inr (a▸pm);exact .inr (a▸pt);exact .inr (a▸pn');exact .inr (a▸pq));have io:=fP.prog nY pd (λg h=>h) (gg (f:=λI:PI=>pV I.q) D rfl) (gg (f:=λJ:PT=>pV J.t) Q rfl);have fy:=HCm C _ _ _ _ _ io;have fd:=io;have ig:=pd;clear Ek lu Am aY nY pd io j0 AR;go_wp2_with fail;refine fy.mono ?_;rintro e V3 ⟨F4,X4,pv',ps',hm',rfl,hF4,hX4,hX5,yv,vO,IK,⟨ip,jf⟩,Qg,aZ⟩;have uV:=fd.rw.jS Y;have i5:=fd.rw.po H BF;have nZ:=fd.rw.on Y H k1 (I':={R with G:=Cm.2.2.1,pv:=pv',ps:=ps',hm:=hm'}) (J':={K with T:=Cm.2.2.2}) rfl rfl (f1.trans (by rw [k3])) rfl rfl yv hX5 hX4 vO IK Qg (.inl rfl) (λg a v=>by
     rcases Qg with Qg|Qg
     .have RE:pv'.ownBlock=some g:=a;rw [Qg] at RE;exact fd.rw.r3 R (gA Y) K (gA H) g RE v
     .have a1:=Qg g a;have a2:=fd.rw.lt g (i5.pl.row g v);omega) (aZ.mono (λg a=>by rcases a with a|a|a|a|a;exact .inl a;exact .inr (.inl a);exact .inr (.inr (.inl a));exact .inr (.inr (.inr (.inl a)));exact .inr (.inr (.inr (.inr (.inl a)))))) (aby.imp id (λh n M hM dM=>by
     obtain⟨A',hA'⟩:∃A',ss[n]? =some A':=⟨ss[n]'(by rw [<-U.sl];exact(mP.1 hM).1),List.getElem?_eq_getElem _⟩;have:=h n A'.G.L (by rw [Bk,hA'];rfl) dM;rw [U.sg n A' M hA' hM];exact this))
    have mX:aa (λg=>F2 g\/X g) C V3:=aZ.mono (λg a=>by rcases a with a|a|a|a|a;exact .inl a;exact .inr (a▸uV.xk);exact .inr (a▸uV.xl);exact .inr (a▸i5.xt);exact .inr (uV.pl.row g a));have MX:=U.upd (I':={I with G:=Cm.2.2.1}) (R':={R with G:=Cm.2.2.1,pv:=pv',ps:=ps',hm:=hm'}) (J':={J with T:=Cm.2.2.2}) (K':={K with T:=Cm.2.2.2}) (M:=N+2) D Y Q H rfl rfl rfl rfl rfl rfl rfl hPu (by omega) (by rw [List.map_set];exact HI2.more (by omega)) (by show ps'.length<=_;omega) (λhe=>by
     have a1:=jf he;subst a1;show R.ps.length+K.us.length<=_;omega) (.inr lJ) EZ
    have uQ:=((aa.ah A uN).trans ig (λg a=> .inl (E g (by rcases a with a|a;exact .inl a;exact .inr (.inl a))))).trans mX (λg a=> .inl (E g (by rcases a with a|a;exact .inr (.inr (.inl a));exact .inr (.inr (.inr (.inl a))))));have ee:=uN.size;have jD:=ig.size;have HF:(ec w V3 q A p r s N):=⟨λg=>A g\/w.heap.size<=g,⟨more F V C,P,F4,X4,O,_,c+40,v1,v2,v3,v4,_,_,_,_,fd.doc nZ mX hF4 hX4 (gg (f:=λI:RI=>pV I.k) Y rfl) (gg (f:=λJ:RJ=>pV J.u) H rfl),MX,λg a=>(by
     rcases a with (a|a)|a|a|a|a
     .exact .inl (E g (.inl a))
     .exact .inr (by omega)
     .exact .inl (E g (.inr (.inl a)))
     .rcases hF4 g a with a|a
      .exact .inl (E g (.inr (.inr (.inl a))))
      .exact .inr (by omega)
     .rcases hX4 g a with a|a
      .exact .inl (E g (.inr (.inr (.inr (.inl a)))))
      .exact .inr (by omega)
     .exact .inl (E g (.inr (.inr (.inr (.inr a)))))),by rw [List.length_set];omega,by rw [List.length_set];omega,by omega⟩,uQ,λ_ h=>h⟩
    clear fy hF4 hX4 hX5 yv vO IK ip jf Qg aZ nZ mX MX uQ;go_wp2;go_ret;exact⟨by simp,HF⟩
   .have Ek:=Pf (fP.pw.EY D) (fP.pw.Lp Q D) qs;have LD:=λ(C:World) (hb:bW V C)=>Lu (fP.later hb).rw.e ((fP.later hb).rw.jS Y) ((fP.later hb).rw.po H BF) (by rw [k2,k3];exact qs);rw [k2,k3] at LD;have OI:=LD;clear LD qs;go_wp2_with fail;refine bN Ek λC bd=>?_;have fy:=OI C bd;have dP:=bd;clear Ek bd;go_wp2_with fail;refine bN fy λV3 bF=>?_;have gd:=dP.trans (bF.mono dP.size);clear fy bF;go_wp2;go_ret;exact⟨by simp,ec.idle (fP.later gd) U E h1 h2 hc (uN.trans (gd.mono uN.size))⟩
  .have oJ:=Oe (fP.pw.EY D) (fP.pw.Lp Q D);have HAb:=(λ(C:World) (G2:SG) (Xr:List PI) (ts2:List PT) (hw:W5 C q F P F2 X O p r s S S c v1 v2 v3 v4 Xr ts2 rs us)=>KE hw.rw.e (hw.rw.jS Y) (hw.rw.po H BF).tx);have ak1:(J.T.abort I.G S).2.2.y=I.G.y/\(J.T.abort I.G S).2.2.L=I.G.L/\(J.T.abort I.G S).2.2.ov=I.G.ov/\((J.T.abort I.G S).2.1.puts=J.T.puts\/(J.T.abort I.G S).2.1.puts= [])/\(((J.T.abort I.G S).2.1=J.T/\(J.T.abort I.G S).2.2.busy=I.G.busy)\/(J.T.ended=false/\(J.T.abort I.G S).2.1.ended=true/\(J.T.abort I.G S).2.2.busy=false)):=by
    unfold TG.abort;by_cases qo:J.T.bT I.G S≠0
    .rw [aG qo];exact⟨rfl,rfl,rfl, .inl rfl, .inl ⟨rfl,rfl⟩⟩
    .rw [aB qo];refine⟨rfl,rfl,rfl, .inr rfl, .inr ⟨?_,rfl,rfl⟩⟩;unfold TG.bT at qo;cases he:J.T.ended
     .rfl
     .rw [he] at qo;exfalso;apply qo;split <;> decide
   rw [k2,k3] at HAb;obtain⟨f1,f2,f3,f4,f5⟩:=ak1;generalize J.T.abort I.G S=Ab at*;go_wp2_with fail;refine oJ.mono ?_;rintro e C ⟨rfl,bd,By,bo,Jf⟩;have j0:=fP.pw.EY D;have AR:=fP.pw.Lp Q D;obtain⟨_,_,_,⟨pq,pl,pm⟩,_⟩:=fP.pw.st I (gA D);obtain⟨_,_,_,_,⟨pt,pn'⟩,_⟩:=fP.pw.tx J (gA Q);have lu:it C F p s c I.q I.l I.m S Ab.2.2:=⟨j0.d.aw Jf (λg a v=>by rcases v with v|v|v;exact AR.nt (v▸a);exact AR.nn (v▸a);exact j0.nq (v▸a)),by rw [f1];exact bo,by rw [f2];exact j0.lp.aw Jf (λv=>by rcases v with v|v|v;exact AR.tl v.symm;exact AR.nl v.symm;exact j0.ql v.symm),by rw [f3];exact j0.ch.aw Jf (λv=>by rcases v with v|v|v;exact AR.tm v.symm;exact AR.nm v.symm;exact j0.qm v.symm),j0.nq,j0.nl,j0.nm,j0.ql,j0.qm,j0.lm,by rw [f2];exact j0.lk,by rw [f2];exact j0.bg,by rw [f1];exact j0.hs,by rw [f3,f1];exact j0.kb⟩;have nY:=fP.pw.on D Q rfl (G':=Ab.2.2) (T':=Ab.2.1) f1 (λg a=> .inl a) lu bd By (λx v=>by
    rw [f1];rcases f4 with f4|f4
    .rw [f4] at v;exact AR.kb x v
    .rw [f4] at v;cases v) (Jf.mono (λg a=>by rcases a with a|a|a;exact .inr (.inr (.inr (.inr (.inl a))));exact .inr (.inr (.inr (.inr (.inr a))));exact .inr (.inl a)))
   have pd:aa (λg=>F g\/P g) V C:=Jf.mono (λg e=> .inr (by rcases e with e|e|e;exact e▸pt;exact e▸pn';exact e▸pq));have io:=fP.prog nY pd (λg a=> .inl a) (gg (f:=λI:PI=>pV I.q) D rfl) (gg (f:=λJ:PT=>pV J.t) Q rfl);have fy:=HAb C Ab.2.2 _ _ io;have fd:=io;have ig:=pd;clear oJ bd By bo Jf lu nY pd io j0;go_wp2_with fail;refine fR fy λV3 bF aZ=>?_;have i5:=fd.rw.po H BF;have nZ:=fd.rw.Lr BF H (K':={K with T:=Ab.2.1}) rfl rfl (λg h=>h) (λg h=> .inl h) ⟨bF,i5.xt,i5.pl.other i5.tx (by decide) (by decide) aZ,i5.nd,λhe=>(by
    show Ab.2.1.puts=_;rcases f5 with ⟨f6,_⟩|⟨_,f6,_⟩
    .rw [f6,<-k2];exact i5.pu (by rw [k2,<-f6];exact he)
    .have YQ:Ab.2.1.ended=false:=he;rw [f6] at YQ;cases YQ),i5.kb,i5.Em⟩ (.inl rfl) (aZ.mono (λ_ h=> .inl h)) (λg a=>i6 (fd.rw.lt g a) aZ.size)
   have mX:aa (λg=>F2 g\/X g) C V3:=aZ.mono (λg e=> .inr (e▸i5.xt));have iG:=fd.doc (nZ.reG (G':=Ab.2.2) Y (by rw [f1,k3]) (by rw [f2,k3]) (by rw [f3,k3])) mX (λg h=> .inl h) (λg h=> .inl h) (gg (f:=λI:RI=>pV I.k) Y rfl) (gg (f:=λJ:RJ=>pV J.u) H rfl);have ou:=U.cs R (gA Y);have YT:(ss.set J.i {I with G:=Ab.2.2}).map (λI=>I.G.L)=ss.map (λI=>I.G.L):=by
    rw [List.map_set];apply mN;rw [Bk,D];show some I.G.L=some Ab.2.2.L;rw [f2]
   have MX:=U.upd (I':={I with G:=Ab.2.2}) (R':={R with G:=Ab.2.2}) (J':={J with T:=Ab.2.1}) (K':={K with T:=Ab.2.1}) (M:=N+2) D Y Q H rfl rfl rfl rfl rfl rfl rfl (f5.imp (λh=>⟨by show Ab.2.1.ended=_;rw [h.1],h.2⟩) id) (by omega) (by rw [YT];exact U.inv.more (by omega)) (by show R.ps.length<=_;omega) (λhe=>by
    rcases f5 with ⟨f6,_⟩|⟨_,f6,_⟩
    .have:=U.ct J.i R K Y (gA H) k1 (by rw [k2,<-f6];exact he);show R.ps.length+K.us.length<=_;omega
    .have YQ:Ab.2.1.ended=false:=he;rw [f6] at YQ;cases YQ) (.inl rfl) rfl
   have uQ:=((aa.ah A uN).trans ig (λg a=> .inl (E g (by rcases a with a|a;exact .inl a;exact .inr (.inl a))))).trans mX (λg a=> .inl (E g (by rcases a with a|a;exact .inr (.inr (.inl a));exact .inr (.inr (.inr (.inl a))))));have HF:(ec w V3 q A p r s N):=⟨A,⟨F,P,F2,X,O,S,c,v1,v2,v3,v4,_,_,_,_,iG,MX,E,by rw [List.length_set];omega,by rw [List.length_set];omega,by omega⟩,uQ,λ_ h=> .inl h⟩;clear fy bF aZ i5 nZ mX iG MX uQ YT AR;go_wp2;go_ret;exact⟨by simp,HF⟩
  .have JA:=G6 (fP.pw.EY D).st (fP.pw.Lp Q D);have OI:=(λ(C:World) (hb:bW V C)=>aH ((fP.later hb).rw.jS Y).st ((fP.later hb).rw.po H BF).tx);go_wp2_with fail;refine bN JA λC bd=>?_;obtain⟨bo,Sv⟩:=OI C bd;rw [k3] at bo;have iq:=aJ C (.cells #[.int .i64 (I.G.y.log:Int), .int .i64 (I.G.y.home:Int), .int .i64 (I.G.y.blocks:Int), .int .i64 (I.G.y.nodes:Int), .int .i64 (I.G.y.data:Int)] 86);have Mf:=heap_alloc_new C (.cells #[.int .i64 (I.G.y.log:Int), .int .i64 (I.G.y.home:Int), .int .i64 (I.G.y.blocks:Int), .int .i64 (I.G.y.nodes:Int), .int .i64 (I.G.y.data:Int)] 86);have s0:=(Sv.aw (aa.ah (λ_=>False) iq) (λh=>h)).c0;have fK:=bo.later iq;have dP:=(bd.trans (iq.mono bd.size));clear JA bd bo Sv;go_wp2_with fail;generalize C.alloc (.cells #[.int .i64 (I.G.y.log:Int), .int .i64 (I.G.y.home:Int), .int .i64 (I.G.y.blocks:Int), .int .i64 (I.G.y.nodes:Int), .int .i64 (I.G.y.data:Int)] 86)=V3 at*;have HS:((λw':World=>w'.cell? (aD K.u 0)=some (pQ R.k)/\w'.cell? (aD C.heap.size 0)=some (iV (I.G.y.log:Int))/\w'.cell? (aD C.heap.size 1)=some (iV (I.G.y.home:Int))/\w'.cell? (aD C.heap.size 2)=some (iV (I.G.y.blocks:Int))/\w'.cell? (aD C.heap.size 3)=some (iV (I.G.y.nodes:Int))/\w'.cell? (aD C.heap.size 4)=some (iV (I.G.y.data:Int))/\w'.cell? (aD R.k 2)=some (iV (I.G.y.log:Int))/\w'.cell? (aD R.k 3)=some (iV (I.G.y.home:Int))/\w'.cell? (aD R.k 4)=some (iV (I.G.y.blocks:Int))/\w'.cell? (aD R.k 5)=some (iV (I.G.y.nodes:Int))/\w'.cell? (aD R.k 6)=some (iV (I.G.y.data:Int))) V3):=⟨s0,aM Mf,bG Mf,bK Mf,fQ Mf,gH Mf,fK.c2,fK.c3,fK.c4,fK.c5,fK.c6⟩;clear fK iq Mf s0;go_region_held3 (λw'=>w'.cell? (aD K.u 0)=some (pQ R.k)/\w'.cell? (aD C.heap.size 0)=some (iV (I.G.y.log:Int))/\w'.cell? (aD C.heap.size 1)=some (iV (I.G.y.home:Int))/\w'.cell? (aD C.heap.size 2)=some (iV (I.G.y.blocks:Int))/\w'.cell? (aD C.heap.size 3)=some (iV (I.G.y.nodes:Int))/\w'.cell? (aD C.heap.size 4)=some (iV (I.G.y.data:Int))/\w'.cell? (aD R.k 2)=some (iV (I.G.y.log:Int))/\w'.cell? (aD R.k 3)=some (iV (I.G.y.home:Int))/\w'.cell? (aD R.k 4)=some (iV (I.G.y.blocks:Int))/\w'.cell? (aD R.k 5)=some (iV (I.G.y.nodes:Int))/\w'.cell? (aD R.k 6)=some (iV (I.G.y.data:Int))) (exact HS) (fail);go_wp2;go_ret;exact⟨by simp,ec.idle (fP.later dP.drew) U E h1 h2 hc (uN.trans (dP.drew.mono uN.size))⟩
end
end
section
section
variable {w w':World} {q:Nat} {F P F2 X O A:Nat->Prop} {p r s c N:Nat} {S:DS} {v1 v2 v3 v4:Value} {ss:List PI} {ts:List PT} {rs:List RI} {us:List RJ}
def E2 (h:W5 w q F P F2 X O p r s S S c v1 v2 v3 v4 ss ts rs us) (hl:Lk S s N ss ts rs us) (C:∀g,(F g\/P g\/F2 g\/X g\/O g)->A g) (mt:∀g,A g->g<w.heap.size) (h1:ss.length<=N) (h2:ts.length<=N) (hc:c<=5000*N) (hN:N<=3999999990000) (Y U AA BB:Int) (da:Option Addr) (dn dc:Nat) (pa:Option Addr) (pn pc:Nat) (x y z:Int) (AL:U<=9223372036854775807) (EI:Y=3\/Y=10\/Y=11):
  Calls prog 31 #[pV q, .agg (j3 Y U AA BB da dn dc pa pn pc x y z)] w λe w'=>e= .returned (.bool true)/\ec w w' q A p r s N:=by
 obtain⟨W,hW⟩:=bQ (w.alloc (.cells (j3 Y U AA BB da dn dc pa pn pc x y z) 41));have EU:bW w W:=by rw [hW];exact(bi w.heap.size w).alloc (bS _) _
 have B4:W.heap[w.heap.size]? =some (.cells (j3 Y U AA BB da dn dc pa pn pc x y z) 41 (0,0)):=by rw [hW];exact heap_alloc_new _ _
 have Ie:W.heap.size=w.heap.size+1:=by rw [hW,World.size_alloc]
 have uo:¬A w.heap.size:=λo=>by have:=mt _ o;omega
 obtain⟨a3,c3,hv3⟩:=AJ h.o1;have TN:=h.later EU;have d0:W.cell? (aD w.heap.size 0)=some (iV Y):=aM B4;have d1:W.cell? (aD w.heap.size 1)=some (iV U):=bG B4;have e4:=TN.c2;have tA:=λk=>AI (W.drewN k) ss.length U AL (by omega);obtain⟨HW,D,C3,MJ⟩:=cO TN hl EU B4;rw [hv3] at e4;clear h hl TN EU B4;go_in;go_wp2_with fail;rw [<-hW];clear hW;go_quiet (first|(go_at_call 73;refine Calls.quiet_of_same (tA _)));rename_i nq _;have hq:bW W (W.drewN nq):=below_drewN (bi _ _) nq;have fP:=(HW.later hq);have uN:=(C3.trans (hq.mono (by omega)));have YC:(W.drewN nq).heap.size=w.heap.size+1:=Ie;have UU:=((hq.block w.heap.size (by omega)).trans MJ);clear HW C3 MJ tA hq d0 d1 e4 Ie;generalize W.drewN nq=V at*;have dV0:V.cell? (aD w.heap.size 0)=some (iV Y):=aM UU;have dV2:V.cell? (aD w.heap.size 2)=some (iV AA):=bK UU;have e4:=fP.c2;have e5:=fP.c3;by_cases q0:ss.length=0
 .have fO:bk ss.length U= -1:=by unfold bk;rw [aG q0]
  rw [fO];go_wp2;go_ret;exact⟨rfl,ec.idle fP D C h1 h2 hc uN⟩
 .obtain⟨j,hj,YJ⟩:=TM (show 0<ss.length by omega) U;rw [YJ];have Zr:¬(j:Int)<0:=by omega
  have YY:(j:Int)<(ss.length:Int):=by omega
  obtain⟨I,H⟩:∃I,ss[j]? =some I:=⟨ss[j],List.getElem?_eq_getElem hj⟩;obtain⟨R,E⟩:∃R,rs[j]? =some R:=⟨rs[j]'(by rw [D.sl];exact hj),List.getElem?_eq_getElem _⟩;have Q:=D.sg j I R H E;obtain⟨g3,cp3,TO,t3⟩:=vV (i:=j) fP.o1 (by rw [Bk,H];rfl);obtain⟨g4,cp4,TP,t4⟩:=vV (i:=j) fP.o2 (by rw [Bk,E];rfl);rw [TO] at e4;rw [TP,D.sl] at e5;clear YJ q0;rcases EI with rfl|rfl|rfl
  .have Fw:=fP.under;by_cases hz:I.G.begin S=0
   .have VY:=Lw hz;have vF:=(sS (fP.pw.EY H)).mono (λe w' h=>by unfold sR at h;rw [aB (λh=>h hz)] at h;exact h);have WJ:=(λ(v:World) (Xr:List PI) (J:W5 v q F P F2 X O p r s S S c v1 v2 v3 v4 Xr ts rs us)=>(zV (G:=I.G) J.rw.e (by rw [<-Q];exact(J.rw.jS E).st) (by rw [<-Q];exact(J.rw.jS E).lp) (J.nowAt D H E)).mono (λe w' h=>by unfold ym at h;rw [aB (λh=>h hz)] at h;exact h));clear hz;go_wp2_with fail;refine vF.mono ?_;rintro e v ⟨t,n,rfl,mS,Sv,YB,Am,sV,lu,aY⟩;obtain⟨_,_,_,⟨pq,pl,pm⟩,_⟩:=fP.pw.st I (gA H);have j0:=fP.pw.EY H;have T0:it v F p s c I.q I.l I.m S {I.G with busy:=true}:=⟨j0.d.aw aY (λg a e=>j0.nq (e▸a)),lu,j0.lp.aw aY (λe=>j0.ql e.symm),j0.ch.aw aY (λe=>j0.qm e.symm),j0.nq,j0.nl,j0.nm,j0.ql,j0.qm,j0.lm,j0.lk,j0.bg,j0.hs,j0.kb⟩;have nY:=fP.pw.onS H (G':={I.G with busy:=true}) rfl (λg h=> .inl h) T0 (aY.mono (λg e=> .inr (.inl e)));have pd:aa (λg=>F g\/P g) V v:=aY.mono (λg e=> .inr (e▸pq));have io:=fP.prog nY pd (λg h=> .inl h) (gg (f:=λI:PI=>pV I.q) H rfl) rfl;obtain⟨fy,fd,ig,HT2,Z8,An,mr⟩:=nA (WJ v _ io) io pd Am sV (aq Am) sV.lt;clear vF Am sV lu aY j0 T0 nY pd io;go_wp2_with fail;refine fy.mono ?_;rintro e T ⟨u,rfl,hu3,abz,afV,aZ⟩;have uV:=fd.rw.jS E;have hRk:=Fw _ (.inr (.inr (.inr (.inl uV.xk))));have nZ:=fd.rw.onS E (I':={R with G:={I.G with busy:=true},nv:=pV u}) rfl rfl (by rw [Q]) (fd.rw.e.aw aZ (λg a e=>fd.rw.fM g (e▸uV.xk) a)) (by
     have a:=uV;rw [Q] at a;exact⟨afV,a.lp.aw aZ (λe=>cY a.lp a.st (by decide) e),a.pl.aw aZ (λg e o=>a.pl.ne e a.st (by decide) o) (λg c ys o hr e=>hr.ne a.st (by decide) e),a.xk,a.xl,a.fM,λg o=>i6 (a.lt g o) aZ.size,a.lk,a.bg,a.hs,a.lh,a.ov,a.hm,a.kb,a.un⟩) rfl (aZ.mono (λg e=> .inr (.inl e))) (.inl rfl)
    have mX:aa (λg=>F2 g\/X g) v T:=aZ.mono (λg e=> .inr (e▸uV.xk));have iG:=fd.doc nZ mX (λg h=> .inl h) (λg h=> .inl h) (gg (f:=λI:RI=>pV I.k) E rfl) rfl;obtain⟨IK,hul,z1,z2⟩:=cO ((aZ.block t An (λe=>by omega)).trans HT2) abz.lt ig.size aZ.size;have lU:∀g,V.heap.size<=g->¬(F g\/P g\/F2 g\/X g\/O g):=λg a o=>by have:=Fw g o;omega
    obtain⟨g4',D8,V4,wF,Ow,xG,dW⟩:=iG.afC (iG.pw.abj (I:={I with G:={I.G with busy:=true}}) (List.getElem?_set_self hj) IK (Z8.aw aZ (λe=>by omega)) (λo=>lU t Sv (.inr (.inl o))) (λo=>lU n mS (.inr (.inl o))) (λo=>lU t Sv (.inl o)) (λo=>lU n mS (.inl o))) (λg a o=>by
     rcases a with a|a|a
     .rcases o with o|o|o
      .exact iG.ad g (.inr a) (.inl o)
      .exact iG.ad g (.inr a) (.inr o)
      .exact iG.oa g o (.inr a)
     .exact lU g (by omega) (.inr (.inr o))
     .exact lU g (by omega) (.inr (.inr o))) (by omega)
    have hc4:=iG.c4;have q4:=gH Ow;have f4:=ae Ow 4;obtain⟨V5,hV5⟩:=bQ (V4.setCell ⟨q,4,none⟩ (.slice (some ⟨g4',0,none⟩) (ts.length+1) D8));have Pg:V5.heap.size=V4.heap.size:=(by rw [hV5];simp);rw [<-hV5] at xG dW;have hrT:=xG.rw.abj (I:={R with G:={I.G with busy:=true},nv:=pV u}) (List.getElem?_set_self (by rw [D.sl];exact hj)) (abz.aw dW (λo=>lU u (by omega) (.inr (.inr (.inr (.inr o)))))) (λo=>lU u (by omega) (.inr (.inr (.inr (.inl o))))) (λo=>lU u (by omega) (.inr (.inr (.inl o))));obtain⟨g5',NO,V6,nM,nR,Fu,jE⟩:=xG.afD hrT (λg a o=>by
     rcases a with a|a
     .rcases o with o|o|o
      .exact xG.ad g (.inl o) (.inr a)
      .exact xG.ad g (.inr o) (.inr a)
      .exact xG.od g o (.inr a)
     .rcases o with o|(o|o|o)|(o|o)
      .exact lU g (by omega) (.inl o)
      .exact lU g (by omega) (.inr (.inl o))
      .omega
      .omega
      .exact lU g (by omega) (.inr (.inr (.inr (.inr o))))
      .omega) (by have:=D.tl;omega)
    have hc5:=xG.c5;have q5:=sk nR;have f5:=ae nR 5;rw [Pg] at nM;rw [hV5] at nM hc5;have akW:=uN.size;have z4:=dW.size;have uQ:=((((aa.ah A uN).trans ig (λg a=> .inl (C g (by rcases a with a|a;exact .inl a;exact .inr (.inl a))))).trans mX (λg a=> .inl (C g (by rcases a with a|a;exact .inr (.inr (.inl a));exact .inr (.inr (.inr (.inl a))))))).trans dW (λg a=> .inl (C g (.inr (.inr (.inr (.inr a))))))).trans jE (λg a=>by
     rcases a with a|a
     .exact .inl (C g (.inr (.inr (.inr (.inr a)))))
     .exact .inr (by omega))
    have HF:(ec w (V6.setCell ⟨q,5,none⟩ (.slice (some ⟨g5',0,none⟩) (us.length+1) NO)) q A p r s N):=⟨λg=>A g\/w.heap.size<=g,⟨_,_,_,_,_,_,c,_,_,_,_,_,_,_,_,Fu,(D.begun (t:=t) (n:=n) (u:=u) (tv:= .slice none 0 0) H E VY).more (by omega),λg a=>(by
     rcases a with a|(a|a|a)|a|(a|a)|((a|a)|a)
     .exact .inl (C g (.inl a))
     .exact .inl (C g (.inr (.inl a)))
     .exact .inr (by omega)
     .exact .inr (by omega)
     .exact .inl (C g (.inr (.inr (.inl a))))
     .exact .inl (C g (.inr (.inr (.inr (.inl a)))))
     .exact .inr (by omega)
     .exact .inl (C g (.inr (.inr (.inr (.inr a)))))
     .exact .inr (by omega)
     .exact .inr (by omega)),by rw [List.length_set];omega,by rw [ed];show ts.length+1<=_;omega,by omega⟩,uQ,λ_ h=>h⟩
    have Hi:=wF;have Hk:=nM;clear fy abz afV aZ uV nZ mX iG IK lU wF Ow xG dW hrT nM nR Fu jE uQ;go_wp2_with (at_builtin;first|refine br rfl _ _ 32 rfl v3 (.slice (some (aD T.heap.size 0)) 1 1) _ rfl rfl Hi ?_|refine br rfl _ _ 33 rfl v4 (.slice (some (aD V4.heap.size 0)) 1 1) _ rfl rfl Hk ?_);go_wp2;go_ret;exact⟨rfl,HF⟩
   .have vF:=(sS (fP.pw.EY H)).mono (λe w' h=>by unfold sR at h;rw [aG hz] at h;exact h);have WJ:=(λ(v:World) (Xr:List PI) (J:W5 v q F P F2 X O p r s S S c v1 v2 v3 v4 Xr ts rs us)=>(zV (G:=I.G) J.rw.e (by rw [<-Q];exact(J.rw.jS E).st) (by rw [<-Q];exact(J.rw.jS E).lp) (J.nowAt D H E)).mono (λe w' h=>by unfold ym at h;rw [aG hz] at h;exact h));clear hz;generalize I.G.begin S=cd at*;go_wp2_with fail;refine fR vF λv _ bd=>?_;have io:=fP.later bd;have fy:=WJ v _ io;have dP:=bd;have fd:=io;clear vF bd io;go_wp2_with fail;refine fR fy λT _ bF=>?_;have HF:=(ec.idle (fd.later bF) D C h1 h2 hc (uN.trans ((dP.trans (bF.mono dP.size)).mono uN.size)));clear fy bF;go_wp2;go_ret;exact⟨by simp,HF⟩
  .have Ms:=D.inv.p6;have HSy:=(λ(v:World) (S':DS) (J:W5 v q F P F2 X O p r s S' S c v1 v2 v3 v4 ss ts rs us)=>KF J.rw.e (J.rw.jS E) (by omega));rw [Q] at HSy;go_wp2_with fail;refine(Oj (fP.pw.EY H) (by omega)).mono ?_;rintro e v ⟨rfl,lu,aY⟩;have nY:=fP.pw.lN (λg h=> .inl h) lu.d aY;have pd:aa (λg=>F g\/P g) V v:=aY.mono (λg h=> .inl h);have io:=fP.prog nY pd (λg h=> .inl h) rfl rfl;have fy:=HSy v _ io;have fd:=io;have ig:=pd;clear lu aY nY pd io;go_wp2_with fail;refine fR fy λT yv aZ=>?_;have nZ:=fd.rw.lN (λg h=> .inl h) yv aZ (λM hM hd=>by
    obtain⟨a1,a2⟩:=Pe D.inv.ok I.G.L M.G.L hd;refine⟨a1,λb hb=>a2 _ ?_⟩;have:=(fd.rw.st M hM).hs;omega)
   have mX:aa (λg=>F2 g\/X g) v T:=aZ.mono (λg h=> .inl h);have iG:=fd.doc nZ mX (λg h=> .inl h) (λg h=> .inl h) rfl rfl;have uQ:=((aa.ah A uN).trans ig (λg a=> .inl (C g (by rcases a with a|a;exact .inl a;exact .inr (.inl a))))).trans mX (λg a=> .inl (C g (by rcases a with a|a;exact .inr (.inr (.inl a));exact .inr (.inr (.inr (.inl a))))));have HF:(ec w T q A p r s N):=⟨A,⟨F,P,F2,X,O,_,c,v1,v2,v3,v4,_,_,_,_,iG,D.synced H,C,by omega,by omega,by omega⟩,uQ,λ_ h=> .inl h⟩;clear fy yv aZ nZ mX iG uQ;go_wp2;go_ret;exact⟨by simp,HF⟩
  .obtain⟨Ms,dC,j0,uV,ou⟩:=eK D.inv.p6 D.inv.qf (fP.pw.EY H) (fP.rw.jS E) (D.cs R (gA E));have hi:(ss.map (λI=>I.G.L))[j]? =some I.G.L:=(by rw [Bk,H];rfl);have Xq:∀q∈I.G.ov,I.G.y.home+q.1<s/\q.2.length=512/\Bytes q.2:=λx o=>by
    have a1:=j0.kb x o;have a2:=j0.hs;exact⟨by omega,(j0.ch.len x o).2⟩
   have BT:I.G.L.f+2+I.G.L.n<=I.G.y.home:=(by have:=uV.lh;rw [Q] at this;exact this);have fB:=λhu=>by
    obtain⟨hd,hb⟩:=Dl hu;obtain⟨ha,hf⟩:=Lt hd;exact((D.inv.al I.G.L (gA hi) ha hf).1 hb).2
   have dL:=ID D.inv hi (λx o=>⟨(Xq x o).1,(Xq x o).2.1⟩);have Ym:=mJ I.G S s;have EZ:=IB (G:=I.G) (S:=S) (s:=s) (λx o=>(Xq x o).1) (by have:=j0.hs;omega);have gX:=AN I.G S s;have nr:=CX j0 dC (by omega);have Z:=(λ(v:World) (F3:Nat->Prop) (S':DS) (c2:Nat) (Xr:List PI) (J:W5 v q F3 P F2 X O p r s S' S c2 v1 v2 v3 v4 Xr ts rs us)=>Aq J.rw.e (J.rw.jS E) dC (by rw [Q];exact fB) (by omega) (by omega));have HI2:=D.inv.check hi j0.bg Xq j0.ch.small BT;have aby:=dL;unfold aav at Z;rw [Q] at Z;clear dL Xq BT fB uV dC;generalize I.G.check S s=Ck at*;go_wp2_with fail;refine fR nr λv lu aY=>?_;obtain⟨_,_,_,⟨pq,pl,pm⟩,_⟩:=fP.pw.st I (gA H);have nY:=fP.pw.onS H (G':=Ck.2.2) Ym (λg h=>h) lu (aY.mono (λg a=>by rcases a with a|a|a;exact .inl a;exact .inr (.inr (.inl a));exact .inr (.inr (.inr a))));have pd:aa (λg=>F g\/P g) V v:=aY.mono (λg a=>by rcases a with a|a|a;exact .inl a;exact .inr (a▸pl);exact .inr (a▸pm));have io:=fP.prog nY pd (λg h=>h) (gg (f:=λI:PI=>pV I.q) H rfl) rfl;have fy:=Z v _ _ _ _ io;have fd:=io;have ig:=pd;clear nr lu aY nY pd io j0;go_wp2_with fail;refine fy.mono ?_;rintro e T ⟨rfl,yv,⟨hm',vO⟩,aZ⟩;have uV:=fd.rw.jS E;have nZ:=fd.rw.onS E (I':={R with G:=Ck.2.2,hm:=hm'}) rfl rfl (Ym.trans (by rw [Q])) yv vO rfl aZ (aby.imp id (λh n K hK dM=>by
    obtain⟨A,C⟩:∃A,ss[n]? =some A:=⟨ss[n]'(by rw [<-D.sl];exact(mP.1 hK).1),List.getElem?_eq_getElem _⟩;have:=h n A.G.L (by rw [Bk,C];rfl) dM;rw [D.sg n A K C hK];exact this))
   have mX:aa (λg=>F2 g\/X g) v T:=aZ.mono (λg a=>by rcases a with a|a|a;exact .inl a;exact .inr (a▸uV.xk);exact .inr (a▸uV.xl));have iG:=fd.doc nZ mX (λg h=>h) (λg h=> .inl h) (gg (f:=λI:RI=>pV I.k) E rfl) rfl;have MX:=D.akF (I':={I with G:=Ck.2.2}) (R':={R with G:=Ck.2.2,hm:=hm'}) (M:=N+2) H E rfl rfl gX rfl (by omega) (by rw [List.map_set];exact HI2.more (by omega)) EZ;have uQ:=((aa.ah A uN).trans ig (λg a=> .inl (C g (by rcases a with a|a;exact .inl a;exact .inr (.inl a))))).trans mX (λg a=> .inl (C g (by rcases a with a|a;exact .inr (.inr (.inl a));exact .inr (.inr (.inr (.inl a))))));have ee:=uN.size;have jD:=ig.size;have HF:(ec w T q A p r s N):=⟨λg=>A g\/w.heap.size<=g,⟨more F V v,P,more F2 v T,X,O,_,c+2,v1,v2,v3,v4,_,_,_,_,iG,MX,λg a=>(by
    rcases a with (a|a)|a|(a|a)|a|a
    .exact .inl (C g (.inl a))
    .exact .inr (by omega)
    .exact .inl (C g (.inr (.inl a)))
    .exact .inl (C g (.inr (.inr (.inl a))))
    .exact .inr (by omega)
    .exact .inl (C g (.inr (.inr (.inr (.inl a)))))
    .exact .inl (C g (.inr (.inr (.inr (.inr a)))))),by rw [List.length_set];omega,by omega,by omega⟩,uQ,λ_ h=>h⟩
   clear fy yv vO aZ nZ mX iG MX uQ;go_wp2;go_ret;exact⟨by simp,HF⟩
end
end
section
def ec.from {w w':World} {q:Nat} {A:Nat->Prop} {p r s N:Nat} (h:ec W w' q A p r s N) (a:bW w W):ec w w' q A p r s N:=by
 obtain⟨A',b,c,d⟩:=h;exact⟨A',b,(aa.ah (λ_=>False) a).mono (λ_ h=>h.elim) |>.trans c (λ_ h=> .inl h),λg e=>(d g e).imp id (λh=>j4 a.size h)⟩
section
variable {w w':World} {q:Nat} {F P F2 X O A:Nat->Prop} {p r s c N:Nat} {S:DS} {v1 v2 v3 v4:Value} {ss:List PI} {ts:List PT} {rs:List RI} {us:List RJ}
def AS (a:Int) (h:W5 w q F P F2 X O p r s S S c v1 v2 v3 v4 ss ts rs us) (t:Lk S s N ss ts rs us) (D:∀g,(F g\/P g\/F2 g\/X g\/O g)->A g) (mt:∀g,A g->g<w.heap.size) (v:ss.length<=N) (C:ts.length<=N) (G:c<=5000*N) (E:N<=3999999990000) (b d f:Int) (i:Option Addr) (k j:Nat) (l:Option Addr) (n m:Nat) (x y z:Int) (AL:b<=9223372036854775807) (EI:a=3\/a=10\/a=11):
  Calls prog 12 #[pV q, .agg (j3 a b d f i k j l n m x y z)] w λe w'=>e= .returned (.bool true)/\ec w w' q A p r s N:=by
 have fO:=aJ w (.cells (j3 a b d f i k j l n m x y z) 41);have lg:(w.alloc (.cells (j3 a b d f i k j l n m x y z) 41)).heap[w.heap.size]? =some (.cells (j3 a b d f i k j l n m x y z) 41 (0,0)):=heap_alloc_new _ _;have uo:¬A w.heap.size:=λI=>by have:=mt _ I;omega
 obtain⟨J,K,L,M,Q,R,T,U,W⟩:=i4 lg;have mj:=E2 (h.later fO) t D (λg H=>i6 (mt g H) fO.size) v C G E a b d f i k j l n m x y z AL EI;have Bi:=fO;clear h fO lg t;rcases EI with rfl|rfl|rfl <;>
 (go_in
  go_wp2_with fail;refine bN mj λV o=>?_;have u:=(o.from Bi);clear mj o;go_wp2;go_ret;exact⟨rfl,u⟩)
def oc (a:Int) (h:W5 w q F P F2 X O p r s S S c v1 v2 v3 v4 ss ts rs us) (u:Lk S s N ss ts rs us) (E:∀g,(F g\/P g\/F2 g\/X g\/O g)->A g) (mt:∀g,A g->g<w.heap.size) (C:ss.length<=N) (D:ts.length<=N) (H:c<=5000*N) (G:N<=3999999990000) (f j k:Int) (i:Option Addr) (b l:Nat) (m:Option Addr) (o n:Nat) (x y z:Int) (AL:f<=9223372036854775807) (d:List Int) (xw:∀W,aa A w W->Src W i b d) (xI:Bytes d) (D0:b<=140737488355328) (EI:a=4\/a=5\/a=6\/a=7\/a=8\/a=9):
  Calls prog 12 #[pV q, .agg (j3 a f j k i b l m o n x y z)] w λe w'=>e= .returned (.bool true)/\ec w w' q A p r s N:=by
 have fO:=aJ w (.cells (j3 a f j k i b l m o n x y z) 41);have lg:(w.alloc (.cells (j3 a f j k i b l m o n x y z) 41)).heap[w.heap.size]? =some (.cells (j3 a f j k i b l m o n x y z) 41 (0,0)):=heap_alloc_new _ _;have uo:¬A w.heap.size:=λK=>by have:=mt _ K;omega
 obtain⟨L,M,Q,R,T,U,Y,Z,y8⟩:=i4 lg;have mj:=Dm (h.later fO) u E (λg I=>i6 (mt g I) fO.size) C D H G a f j k i b l m o n x y z AL d (λW J=>xw W ((aa.ah (λ_=>False) fO).mono (λ_ h=>h.elim) |>.trans J (λ_ h=> .inl h))) xI D0 (by omega);have Bi:=fO;clear h fO lg u xw xI;rcases EI with rfl|rfl|rfl|rfl|rfl|rfl <;>
 (go_in
  go_wp2_with fail;refine bN mj λV t=>?_;have v:=(t.from Bi);clear mj t;go_wp2;go_ret;exact⟨rfl,v⟩)
def E3 (h:W5 w q F P F2 X O p r s S S c v1 v2 v3 v4 ss ts rs us) (t:Lk S s N ss ts rs us) (C:∀g,(F g\/P g\/F2 g\/X g\/O g)->A g) (mt:∀g,A g->g<w.heap.size) (u:ss.length<=N) (v:ts.length<=N) (G:c<=5000*N) (D:N<=3999999990000) (b i j:Int) (f:Option Addr) (a k:Nat) (l:Option Addr) (n m:Nat) (x y z:Int) (AL:b<=9223372036854775807) (d:List Int) (xw:∀W,aa A w W->Src W f a d) (xI:Bytes d) (D0:a<=140737488355328):
  Calls prog 12 #[pV q, .agg (j3 12 b i j f a k l n m x y z)] w λe w'=>e= .returned (.bool true)/\ec w w' q A p r s N:=by
 have fO:=aJ w (.cells (j3 12 b i j f a k l n m x y z) 41);have lg:(w.alloc (.cells (j3 12 b i j f a k l n m x y z) 41)).heap[w.heap.size]? =some (.cells (j3 12 b i j f a k l n m x y z) 41 (0,0)):=heap_alloc_new _ _;have h0:=h.later fO;have uo:¬A w.heap.size:=λhx=>by have:=mt _ hx;omega
 have LE:=λg o=>i6 (mt g o) fO.size;obtain⟨H,I,J,K,L,M,Q,R,T⟩:=i4 lg;obtain⟨mj,UV,Y,YU,Yq,Bi⟩:=jF (AK h0 t C LE u v G D b i j f a k l n m x y z AL) h0 t lg xw fO;clear h fO lg t h0 xw;go_in;go_wp2_with fail;refine bN mj λV ar=>?_;clear H I J K L M Q R T;obtain⟨H,I,J,K,L,M,Q,R,T⟩:=i4 ((ar.block w.heap.size (aq YU)).trans YU);have afW:=Dm (UV.later ar) Y C (λg o=>i6 (LE g o) ar.size) u v G D 12 b i j f a k l n m x y z AL d (λW Z=>Yq W ((((aa.ah (λ_=>False) Bi).mono (λ_ h=>h.elim):aa A w _).trans (aa.ah (λ_=>False) ar) (λ_ h=>h.elim)).trans Z (λ_ h=> .inl h))) xI D0 (by omega);have cQ:=(Bi.trans (ar.mono Bi.size));clear mj ar;go_wp2_with fail;refine bN afW λV2 E=>?_;have U:=(E.from cQ);clear afW E;go_wp2;go_ret;exact⟨rfl,U⟩
def LF (h:W5 w q F P F2 X O p r s S S c v1 v2 v3 v4 ss ts rs us) (n:Lk S s N ss ts rs us) (C:∀g,(F g\/P g\/F2 g\/X g\/O g)->A g) (mt:∀g,A g->g<w.heap.size) (u:ss.length<=N) (v:ts.length<=N) (E:c<=5000*N) (D:N<=3999999990000) (d a b:Int) (f:Option Addr) (j i:Nat) (k:Option Addr) (m l:Nat) (x y z:Int):
  Calls prog 12 #[pV q, .agg (j3 2 d a b f j i k m l x y z)] w λe w'=>e= .returned (.bool true)/\ec w w' q A p r s N:=by
 have fO:=aJ w (.cells (j3 2 d a b f j i k m l x y z) 41);have lg:(w.alloc (.cells (j3 2 d a b f j i k m l x y z) 41)).heap[w.heap.size]? =some (.cells (j3 2 d a b f j i k m l x y z) 41 (0,0)):=heap_alloc_new _ _;have uo:¬A w.heap.size:=λH=>by have:=mt _ H;omega
 have LE:=λg G=>i6 (mt g G) fO.size;obtain⟨J,K,L,M,Q,R,T,U,W⟩:=i4 lg;have mj:=abr (h.later fO) n C u v E D;have I:=n;have Bi:=fO;clear h fO lg n;go_in;go_wp2_with fail;refine bN mj λV o=>?_;have t:=(o.from Bi);clear mj o;go_wp2;go_ret;exact⟨rfl,t⟩
def LH (h:W5 w q F P F2 X O p r s S S c v1 v2 v3 v4 ss ts rs us) (o:Lk S s N ss ts rs us) (D:∀g,(F g\/P g\/F2 g\/X g\/O g)->A g) (mt:∀g,A g->g<w.heap.size) (H:ss.length<=N) (I:ts.length<=N) (K:c<=5000*N) (J:N<=3999999990000) (j f i:Int) (l:Option Addr) (n m:Nat) (t:Option Addr) (v u:Nat) (x y z:Int):
  Calls prog 12 #[pV q, .agg (j3 15 j f i l n m t v u x y z)] w λe w'=>e= .returned (.bool true)/\ec w w' q A p r s N:=by
 have fO:=aJ w (.cells (j3 15 j f i l n m t v u x y z) 41);have lg:(w.alloc (.cells (j3 15 j f i l n m t v u x y z) 41)).heap[w.heap.size]? =some (.cells (j3 15 j f i l n m t v u x y z) 41 (0,0)):=heap_alloc_new _ _;have h0:=h.later fO;have uo:¬A w.heap.size:=λb=>by have:=mt _ b;omega
 have LE:=λg C=>i6 (mt g C) fO.size;obtain⟨L,M,Q,R,T,U,W,Y,Z⟩:=i4 lg;have Mu:=h0.pw.d.ok.hi;obtain⟨mj,UV,G,Bi⟩:=cO (abm h0.pw.d h0.rw.e (λk a b=>h0.ad k (.inl a) (.inl b)) h0.box (λb=>h0.oa q h0.oq (.inl b)) (by have:=o.inv.p6;omega) o.rf (by omega)) h0 o fO;clear h fO lg o h0;go_in;go_wp2_with fail;refine fR mj λV hd a=>?_;have E:(ec w V q A p r s N):=⟨A,⟨_,_,_,_,_,_,c+s,_,_,_,_,_,_,_,_,UV.prog (UV.pw.lN (λg h=> .inl h) hd a) (a.mono (λg h=> .inl h)) (λg h=> .inl h) rfl rfl,G.more (by omega),D,by omega,by omega,by omega⟩,(aa.ah A Bi).trans a (λg C=> .inl (D g (.inl C))),λ_ h=> .inl h⟩;clear mj hd a;go_wp2;go_ret;exact⟨rfl,E⟩
def LI (h:W5 w q F P F2 X O p r s S S c v1 v2 v3 v4 ss ts rs us) (t:Lk S s N ss ts rs us) (C:∀g,(F g\/P g\/F2 g\/X g\/O g)->A g) (u:ss.length<=N) (v:ts.length<=N) (D:c<=5000*N) (a f b d:Int) (i:Option Addr) (k j:Nat) (l:Option Addr) (n m:Nat) (x y z:Int) (EI:a<1\/15<a):
  Calls prog 12 #[pV q, .agg (j3 a f b d i k j l n m x y z)] w λe w'=>e= .returned (.bool true)/\ec w w' q A p r s N:=by
 have fO:=aJ w (.cells (j3 a f b d i k j l n m x y z) 41);have lg:(w.alloc (.cells (j3 a f b d i k j l n m x y z) 41)).heap[w.heap.size]? =some (.cells (j3 a f b d i k j l n m x y z) 41 (0,0)):=heap_alloc_new _ _;have H:=(i4 lg).1;have o:=(ec.idle (h.later fO) t C u v D fO);clear h t fO lg;by_cases E:a<1
 .go_in;go_wp2;go_ret;exact⟨rfl,o⟩
 .have G:=EI.resolve_left E;go_in;go_wp2;go_ret;exact⟨rfl,o⟩
end
end
section
def LJ {S:DS} (x:Int) (rs:List RI):TV S (S.lay x) rs:=λR _ hd=>by
 unfold DS.lay at*;split at hd
 .rename_i h0;rw [aG h0];exact⟨hd,λ_ _=>rfl⟩
 .rename_i h0;rw [aB h0];refine⟨?_,λ_ _=>rfl⟩;unfold LG.dead;rw [Bool.or_eq_false_iff];refine⟨by rw [fJ];exact h0,?_⟩;have a:R.G.L.life=S.life:=(Lt hd).1;rw [a];simp
section
variable {w w':World} {q:Nat} {F P F2 X O A:Nat->Prop} {p r s c N:Nat} {S:DS} {v1 v2 v3 v4:Value} {ss:List PI} {ts:List PT} {rs:List RI} {us:List RJ}
def LK (h:W5 w q F P F2 X O p r s S S c v1 v2 v3 v4 ss ts rs us) (K:Lk S s N ss ts rs us) (m:∀g,(F g\/P g\/F2 g\/X g\/O g)->A g) (mt:∀g,A g->g<w.heap.size) (h1:ss.length<=N) (h2:ts.length<=N) (hc:c<=5000*N) (U:N<=3999999990000) (i a f:Int) (j:Option Addr) (l k:Nat) (u:Option Addr) (C v:Nat) (x y z:Int) (n:a<=9223372036854775807):
  Calls prog 12 #[pV q, .agg (j3 13 i a f j l k u C v x y z)] w λe w'=>e= .returned (.bool true)/\ec w w' q A p r s N:=by
 have fO:=aJ w (.cells (j3 13 i a f j l k u C v x y z) 41);have lg:(w.alloc (.cells (j3 13 i a f j l k u C v x y z) 41)).heap[w.heap.size]? =some (.cells (j3 13 i a f j l k u C v x y z) 41 (0,0)):=heap_alloc_new _ _;have h0:=h.later fO;have uo:¬A w.heap.size:=λt=>by have:=mt _ t;omega
 have LE:=λg o=>i6 (mt g o) fO.size;obtain⟨y0,Y,Z,y3,y4,y5,y6,y7,y8⟩:=i4 lg;obtain⟨J,W,UV,G,YU,ee,Bi⟩:=nA h0.c0 h0.c1 h0 K lg (aq lg) fO;clear h fO lg K h0 Y y3 y4 y5 y6 y7 y8;go_in;go_wp2_with fail;generalize (w.alloc (.cells (j3 13 i a f j l k u C v x y z) 41))=I at*;have kv:=ai (bi I.heap.size I);have b:=UV.later kv;have L:=B.afE b.pw.d a n;have LB:=b;have sW:=kv;clear kv b;go_region_held3 (λw'=>w'.cell? (aD q 0)=some (pV p)/\w'.cell? (aD w.heap.size 2)=some (iV a))
  (first|exact⟨J,Z⟩|exact⟨PY,D⟩)
    ((go_at_call 26;refine L.mono ?_;rintro e H ⟨rfl,cI,aY⟩;have io:=LB.prog (LB.pw.lN (λg h=> .inl h) cI aY) (aY.mono (λg h=> .inl h)) (λg h=> .inl h) rfl rfl;have PY:=io.c0;have mS:=(aY.block w.heap.size ee (λt=>uo (m _ (.inl t)))).trans ((sW.block w.heap.size ee).trans YU);have D:=bK mS))
 obtain⟨IH,fd,E,ig,jD,xO⟩:=jF io.c1 io mS aY (aq mS) (ai (bi H.heap.size H));have AT:=io.later xO;have Q:=Ry AT.rw.e a n;have IM:=AT;have LL:=xO;clear L cI aY io mS J W PY xO AT;go_wp2_with fail;go_region_held3 (λw'=>w'.cell? (aD q 1)=some (pV r)/\w'.cell? (aD w.heap.size 2)=some (iV a))
  (first|exact⟨IH,D⟩|exact⟨T5,ak3⟩)
    ((go_at_call 27;refine Q.mono ?_;rintro e T ⟨rfl,yv,aZ⟩;have iG:=IM.doc (IM.rw.lN (λg h=> .inl h) yv aZ (LJ a rs)) (aZ.mono (λg h=> .inl h)) (λg h=> .inl h) (λg h=> .inl h) rfl rfl;have T5:=iG.c1;have xY:=(aZ.block w.heap.size jD (λt=>uo (m _ (.inr (.inr (.inl t)))))).trans ((LL.block w.heap.size jD).trans E);have ak3:=bK xY))
 have R:(ec w T q A p r s N):=⟨A,⟨_,_,_,_,_,_,c,_,_,_,_,_,_,_,_,iG,G.TQ (M:=N+2) (by omega) ((G.inv.lay a iG.pw.d.ok).more (by omega)) (aba S a),m,by omega,by omega,by omega⟩,((((((aa.ah A Bi).trans (aa.ah (λ_=>False) sW) (λ_ h=>h.elim)).trans ig (λg o=> .inl (m g (.inl o)))).trans (aa.ah (λ_=>False) LL) (λ_ h=>h.elim))).trans aZ (λg o=> .inl (m g (.inr (.inr (.inl o)))))),λ_ h=> .inl h⟩;clear Q yv aZ iG xY;go_wp2;go_ret;exact⟨rfl,R⟩
def IN (h:W5 w q F P F2 X O p r s S S c v1 v2 v3 v4 ss ts rs us) (H:Lk S s N ss ts rs us) (i:∀g,(F g\/P g\/F2 g\/X g\/O g)->A g) (mt:∀g,A g->g<w.heap.size) (h1:ss.length<=N) (h2:ts.length<=N) (hc:c<=5000*N) (hN:N<=3999999990000) (v m n:Int) (C:Option Addr) (E D:Nat) (f:Option Addr) (b j:Nat) (x y z:Int) (l:List P3) (I:∀W,aa A w W->lf W f b l) (nE:24*b<=140737488355328):
  Calls prog 12 #[pV q, .agg (j3 14 v m n C E D f b j x y z)] w λe w'=>e= .returned (.bool true)/\ec w w' q A p r s N:=by
 have fO:=aJ w (.cells (j3 14 v m n C E D f b j x y z) 41);have lg:(w.alloc (.cells (j3 14 v m n C E D f b j x y z) 41)).heap[w.heap.size]? =some (.cells (j3 14 v m n C E D f b j x y z) 41 (0,0)):=heap_alloc_new _ _;have h0:=h.later fO;have uo:¬A w.heap.size:=λk=>by have:=mt _ k;omega
 have LE:=λg a=>i6 (mt g a) fO.size;obtain⟨y0,y1,y2,y3,y4,y5,y6,y7,y8⟩:=i4 lg;obtain⟨Y,c1,UV,L,YU,t,R,Ms⟩:=xq h0.c0 h0.c1 h0 H lg I h0.under H.inv.p6;obtain⟨wl1,_⟩:=vW H.inv.l0 H.inv.lt hN;have yB:S.life<(S.iy s l).life:=by show S.life<wrap64 (S.life+1);omega
 have ee:=aq lg;have Bi:=fO;clear h fO lg H h0 I;go_in;go_wp2_with fail;generalize (w.alloc (.cells (j3 14 v m n C E D f b j x y z) 41))=u at*;have kv:=ai (bi u.heap.size u);have EI:=(aa.ah A Bi).trans (aa.ah (λ_=>False) kv) (λ_ h=>h.elim);obtain⟨Z,LB,sW,K⟩:=cO (Nc f b j l u.drew nE (t _ EI)) (UV.later kv) kv EI;have hzd:u.drew.heap.size=u.heap.size:=rfl;clear kv EI;go_region_held3 (λw'=>w'.cell? (aD q 0)=some (pV p)/\w'.cell? (aD w.heap.size 5)=some (.slice f b j))
  (first|exact⟨Y,y5⟩|exact⟨PY,J⟩|exact⟨afY,afZ⟩)
  (first
   |(go_at_call 29;refine Z.mono ?_;rintro e V1 ⟨g,rfl,a,af0,ar⟩;have K5:=LB.later ar;have PY:=K5.c0;have jl:=(ar.block w.heap.size ee).trans ((sW.block w.heap.size ee).trans YU);have J:=sk jl;have G:¬F g:=λk=>by have:=R g (.inl k);omega)
   |(go_at_call 28;refine(B.ZV K5.pw.d (by omega) (some (aD g 0)) b b l af0 (by omega) (λx e=>by cases e;exact G)).mono ?_;rintro e U ⟨rfl,cI,aY⟩;have io:=K5.prog (K5.pw.lN (λg h=> .inl h) cI aY) (aY.mono (λg h=> .inl h)) (λg h=> .inl h) rfl rfl;have afY:=io.c0;have mS:=(aY.block w.heap.size (aq jl) (λk=>uo (i _ (.inl k)))).trans jl;have afZ:=sk mS))
 have IH:=io.c1;have jD:=aq mS;have xO:=ai (bi U.heap.size U);have B7:=((K.trans (aa.ah (λ_=>False) ar) (λ_ h=>h.elim)).trans aY (λg a=> .inl (i g (.inl a)))).trans (aa.ah (λ_=>False) xO) (λ_ h=>h.elim);have AT:=io.later xO;obtain⟨k2,IM,LL,Q,o⟩:=eK (Ku AT.rw.e (by omega) f b j l (t _ B7) (by omega)) AT xO mS B7;clear Z K5 ar af0 cI aY io jl mS Y c1 PY afY y5 J xO AT B7 G;go_wp2_with fail;go_region_held3 (λw'=>w'.cell? (aD q 1)=some (pV r)/\w'.cell? (aD w.heap.size 5)=some (.slice f b j))
  (first|exact⟨IH,afZ⟩|exact⟨T5,T⟩)
    ((go_at_call 30;refine k2.mono ?_;rintro e V3 ⟨rfl,yv,aZ⟩;have iG:=IM.doc (IM.rw.lN (λg h=>h) yv aZ (L.sZ (.inr yB))) (aZ.mono (λg h=> .inl h)) (λg h=>h) (λg h=> .inl h) rfl rfl;have T5:=iG.c1;have xY:=(aZ.block w.heap.size jD (λk=>uo (i _ (.inr (.inr (.inl k)))))).trans ((LL.block w.heap.size jD).trans Q);have T:=sk xY))
 have uQ:=o.trans aZ (λg a=> .inl (i g (.inr (.inr (.inl a)))));have zA:=o.size;have HF:(ec w V3 q A p r s N):=⟨λg=>A g\/w.heap.size<=g,⟨_,_,_,_,_,_,c,_,_,_,_,_,_,_,_,iG,L.TQ (M:=N+2) (by omega) ((L.inv.iy (by omega) l iG.pw.d.ok).more (by omega)) rfl,λg a=>(by
  rcases a with a|a|(a|a)|a|a
  .exact .inl (i g (.inl a))
  .exact .inl (i g (.inr (.inl a)))
  .exact .inl (i g (.inr (.inr (.inl a))))
  .exact .inr (by omega)
  .exact .inl (i g (.inr (.inr (.inr (.inl a)))))
  .exact .inl (i g (.inr (.inr (.inr (.inr a)))))),by omega,by omega,by omega⟩,uQ,λ_ h=>h⟩
 clear k2 yv aZ iG xY uQ;go_wp2;go_ret;exact⟨rfl,HF⟩
def E4 (h:W5 w q F P F2 X O p r s S S c v1 v2 v3 v4 ss ts rs us) (f:Lk S s N ss ts rs us) (b:∀g,(F g\/P g\/F2 g\/X g\/O g)->A g) (mt:∀g,A g->g<w.heap.size) (h1:ss.length<=N) (h2:ts.length<=N) (hc:c<=5000*N) (hN:N<=3999999990000) (m j k:Int) (n:Option Addr) (t o:Nat) (v:Option Addr) (D C:Nat) (x y z:Int):
  Calls prog 12 #[pV q, .agg (j3 1 m j k n t o v D C x y z)] w λe w'=>e= .returned (.bool true)/\ec w w' q A p r s N:=by
 have fO:=aJ w (.cells (j3 1 m j k n t o v D C x y z) 41);have lg:(w.alloc (.cells (j3 1 m j k n t o v D C x y z) 41)).heap[w.heap.size]? =some (.cells (j3 1 m j k n t o v D C x y z) 41 (0,0)):=heap_alloc_new _ _;have h0:=h.later fO;have uo:¬A w.heap.size:=λu=>by have:=mt _ u;omega
 have LE:=λg a=>i6 (mt g a) fO.size;obtain⟨y0,y1,y2,y3,y4,y5,y6,y7,y8⟩:=i4 lg;obtain⟨T,c1,UV,HL,YU,Ms,l1,l2⟩:=xq h0.c0 h0.c1 h0 f lg f.inv.p6 (B.wu h0.pw.d) (nO h0.rw.e);obtain⟨wl1,wl2⟩:=vW f.inv.l0 f.inv.lt hN;have Y:(bY S s x y z).2=S\/S.life<(bY S s x y z).2.life:=(Lz S s x y z).imp id (λh=>by rcases h with h|h <;> omega);have Q:=(f.sZ Y);obtain⟨K,EZ,Fy,ee,Bi⟩:=eK ((f.inv.afh (by omega) x y z)) (Lo S s x y z) f.inv.qf (aq lg) fO;clear h fO lg f h0 Y;go_in;go_wp2_with fail;refine bN l1 λw1 bL=>?_;have jP:=bL.symm;clear bL l1;subst jP;go_wp2_with fail;refine bN l2 λw1 bL=>?_;have jP:=bL.symm;clear bL l2;subst jP;go_wp2_with fail;generalize (w.alloc (.cells (j3 1 m j k n t o v D C x y z) 41))=J at*;have kv:=ai (bi J.heap.size J);have i:=UV.later kv;have Z:=wQ i.pw.d Fy x y z (by omega);have LB:=i;have sW:=kv;have l:=(λ(V:World) (he:aC V F2 r s S)=>ET he Fy x y z (by omega));unfold tw at l;clear kv i;generalize bY S s x y z=Fm at*;go_region_held3 (λw'=>w'.cell? (aD q 0)=some (pV p)/\w'.cell? (aD w.heap.size 6)=some (iV x)/\w'.cell? (aD w.heap.size 7)=some (iV y)/\w'.cell? (aD w.heap.size 8)=some (iV z))
  (first|exact⟨T,y6,y7,y8⟩|exact⟨PY,E,G,H⟩)
    ((go_at_call 17;refine Z.mono ?_;rintro e I ⟨rfl,cI,aY⟩;have io:=LB.prog (LB.pw.lN (λg h=>h) cI aY) (aY.mono (λg h=> .inl h)) (λg h=>h) rfl rfl;have PY:=io.c0;have mS:=(aY.block w.heap.size ee (λu=>uo (b _ (.inl u)))).trans ((sW.block w.heap.size ee).trans YU);have E:=xp mS;have G:=rC mS;have H:=Dv mS))
 obtain⟨IH,fd,L,ig,jD,xO⟩:=jF io.c1 io mS aY (aq mS) (ai (bi I.heap.size I));have AT:=io.later xO;have k2:=l _ AT.rw.e;have IM:=AT;have LL:=xO;clear Z cI aY io mS T c1 PY xO AT;go_wp2_with fail;go_region_held3 (λw'=>w'.cell? (aD q 1)=some (pV r)/\w'.cell? (aD w.heap.size 6)=some (iV x)/\w'.cell? (aD w.heap.size 7)=some (iV y)/\w'.cell? (aD w.heap.size 8)=some (iV z))
  (first|exact⟨IH,E,G,H⟩|exact⟨T5,ak4,ak5,ak6⟩)
    ((go_at_call 24;refine k2.mono ?_;rintro e R ⟨rfl,yv,aZ⟩;have iG:=IM.doc (IM.rw.lN (λg h=>h) yv aZ Q) (aZ.mono (λg h=> .inl h)) (λg h=>h) (λg h=> .inl h) rfl rfl;have T5:=iG.c1;have xY:=(aZ.block w.heap.size jD (λu=>uo (b _ (.inr (.inr (.inl u)))))).trans ((LL.block w.heap.size jD).trans L);have ak4:=xp xY;have ak5:=rC xY;have ak6:=Dv xY))
 have MX:=HL.TQ (M:=N+2) (by omega) K EZ;have abB:=ai (bi R.heap.size R);have uP:=iG.later abB;have z0:=Bi.size;have z2:=ig.size;have zd:J.drew.heap.size=J.heap.size:=rfl;have zd2:I.drew.heap.size=I.heap.size:=rfl;have uQ:=((((((aa.ah A Bi).trans (aa.ah (λ_=>False) sW) (λ_ h=>h.elim)).trans ig (λg a=> .inl (b g (.inl a)))).trans (aa.ah (λ_=>False) LL) (λ_ h=>h.elim))).trans aZ (λg a=> .inl (b g (.inr (.inr (.inl a)))))).trans (aa.ah (λ_=>False) abB) (λ_ h=>h.elim);have HF:(ec w R.drew q A p r s N):=⟨λg=>A g\/w.heap.size<=g,⟨_,_,_,_,_,_,c+2,_,_,_,_,_,_,_,_,uP,MX,λg a=>(by
  rcases a with (a|a)|a|(a|a)|a|a
  .exact .inl (b g (.inl a))
  .exact .inr (by omega)
  .exact .inl (b g (.inr (.inl a)))
  .exact .inl (b g (.inr (.inr (.inl a))))
  .exact .inr (by omega)
  .exact .inl (b g (.inr (.inr (.inr (.inl a)))))
  .exact .inl (b g (.inr (.inr (.inr (.inr a)))))),by omega,by omega,by omega⟩,uQ,λ_ h=>h⟩
 obtain⟨l3,l4,U,W⟩:=cO (B.wu uP.pw.d) (nO uP.rw.e) iG.c0 iG.c1;clear k2 yv aZ iG uP abB xY MX uQ;go_wp2_with fail;go_region_held3 (λw'=>w'.cell? (aD q 0)=some (pV p)/\w'.cell? (aD q 1)=some (pV r))
  (exact⟨U,W⟩)
  (first
   |(go_at_call 22;refine l3.mono ?_;rintro e w4 ⟨rfl,px⟩;have EP:=px.symm;clear px;subst EP)
   |(go_at_call 23;refine l4.mono ?_;rintro e w5 ⟨rfl,Jg⟩;have Lv:=Jg.symm;clear Jg;subst Lv))
 clear l3 l4 U W;go_wp2;go_ret;exact⟨by simp,HF⟩
end
end
section
section
variable {w w':World} {q:Nat} {F P F2 X O A:Nat->Prop} {p r s c N:Nat} {S:DS} {v1 v2 v3 v4:Value} {ss:List PI} {ts:List PT} {rs:List RI} {us:List RJ}
def Pj (h:W5 w q F P F2 X O p r s S S c v1 v2 v3 v4 ss ts rs us) (E:Lk S s N ss ts rs us) (C:∀g,(F g\/P g\/F2 g\/X g\/O g)->A g) (mt:∀g,A g->g<w.heap.size) (u:ss.length<=N) (v:ts.length<=N) (D:c<=5000*N) (G:N<=3999999990000) (b j i n:Int) (l:Option Addr) (a o:Nat) (m:Option Addr) (f t:Nat) (x y z:Int) (AL:j<=9223372036854775807) (H:i<=9223372036854775807) (d:List Int) (xw:∀W,aa A w W->Src W l a d) (xI:Bytes d) (D0:a<=140737488355328) (J:List P3) (I:∀W,aa A w W->lf W m f J) (nE:24*f<=140737488355328):
  Calls prog 12 #[pV q, .agg (j3 b j i n l a o m f t x y z)] w λe w'=>e= .returned (.bool true)/\ec w w' q A p r s N:=by
 by_cases k:b<1\/15<b
 .exact LI h E C u v D b j i n l a o m f t x y z k
 .have K:b=1\/b=2\/b=3\/b=4\/b=5\/b=6\/b=7\/b=8\/b=9\/b=10\/b=11\/b=12\/b=13\/b=14\/b=15:=by omega
  rcases K with rfl|rfl|rfl|rfl|rfl|rfl|rfl|rfl|rfl|rfl|rfl|rfl|rfl|rfl|rfl
  .exact E4 h E C mt u v D G j i n l a o m f t x y z
  .exact LF h E C mt u v D G j i n l a o m f t x y z
  .exact AS 3 h E C mt u v D G j i n l a o m f t x y z AL (by omega)
  .exact oc 4 h E C mt u v D G j i n l a o m f t x y z AL d xw xI D0 (by omega)
  .exact oc 5 h E C mt u v D G j i n l a o m f t x y z AL d xw xI D0 (by omega)
  .exact oc 6 h E C mt u v D G j i n l a o m f t x y z AL d xw xI D0 (by omega)
  .exact oc 7 h E C mt u v D G j i n l a o m f t x y z AL d xw xI D0 (by omega)
  .exact oc 8 h E C mt u v D G j i n l a o m f t x y z AL d xw xI D0 (by omega)
  .exact oc 9 h E C mt u v D G j i n l a o m f t x y z AL d xw xI D0 (by omega)
  .exact AS 10 h E C mt u v D G j i n l a o m f t x y z AL (by omega)
  .exact AS 11 h E C mt u v D G j i n l a o m f t x y z AL (by omega)
  .exact E3 h E C mt u v D G j i n l a o m f t x y z AL d xw xI D0
  .exact LK h E C mt u v D G j i n l a o m f t x y z H
  .exact IN h E C mt u v D G j i n l a o m f t x y z J I nE
  .exact LH h E C mt u v D G j i n l a o m f t x y z
end
end
end Go.Proofs.YtcpdggdfihjhoaaGreat
