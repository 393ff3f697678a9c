import Derived.Test.YtcpdggdfihjhoabGreatW01
import Derived.Test.YtcpdggdfihjhoabGreatW11
set_option maxRecDepth 20000
set_option maxHeartbeats 8000000
set_option linter.all false
namespace Go.Proofs.YtcpdggdfihjhoabGreat
open Go.Proofs.Tryz
open Go.RowKit Go.Maps
variable {S:DS} {L:LG} {d:List Int} {ls:List LG} {ss:List PI} {ts:List PT} {rs:List RI} {us:List RJ} {vs xs:List Value} {M N c i j k n p s:Nat} {F:Nat->Prop} {I:PI} {R:RI} {G:SG} {α:Type} {e:TypeId} {v:Value} {W w:World}
section
abbrev pV (l:Nat):Value:=pQ l
abbrev UP (p r:Nat) (v1 v2 v3 v4:Value):Array Value:= #[pV p,pV r,v1,v2,v3,v4]
structure W5 (w:World) (q:Nat) (F P F2 X O:Nat->Prop) (p r s:Nat) (S S2:DS) (c:Nat) (v1 v2 v3 v4:Value) (ss:List PI) (ts:List PT) (rs:List RI) (us:List RJ):Prop where
 box:w.heap[q]? =some (.cells (UP p r v1 v2 v3 v4) 37 (0,0))
 oq:O q
 pi:∀g,O g->g<w.heap.size
 pw:PW w F P p s S c ss ts
 rw:RW w F2 X r s S2 rs us
 o1:w.ownsRow 0 50 1 v1 ss.length (ss.map (λI=>pV I.q))
 q1:∀g,v1.ownBlock=some g->O g
 o2:w.ownsRow 0 106 1 v2 rs.length (rs.map (λI=>pV I.k))
 q2:∀g,v2.ownBlock=some g->O g
 o3:w.ownsRow 0 53 1 v3 ts.length (ts.map (λJ=>pV J.t))
 q3:∀g,v3.ownBlock=some g->O g
 o4:w.ownsRow 0 121 1 v4 us.length (us.map (λJ=>pV J.u))
 q4:∀g,v4.ownBlock=some g->O g
 ad:∀g,(F g\/P g)->¬(F2 g\/X g)
 oa:∀g,O g->¬(F g\/P g)
 od:∀g,O g->¬(F2 g\/X g)
structure Lk (S:DS) (s N:Nat) (ss:List PI) (ts:List PT) (rs:List RI) (us:List RJ):Prop where
 sl:rs.length=ss.length
 sg:∀(i:Nat) (I:PI) (R:RI),ss[i]? =some I->rs[i]? =some R->R.G=I.G
 tl:us.length=ts.length
 tg:∀(j:Nat) (J:PT) (K:RJ),ts[j]? =some J->us[j]? =some K->K.i=J.i/\K.T=J.T
 inv:V.Inv S s (ss.map (λI=>I.G.L)) N
 now:∀(i:Nat) (I:PI) (R:RI),ss[i]? =some I->rs[i]? =some R->
    (R.nv= .pointer none/\I.G.busy=false/\∀(j:Nat) (J:PT),ts[j]? =some J->J.i=i->J.T.ended=true)\/
  ∃(j:Nat) (J:PT) (K:RJ),ts[j]? =some J/\us[j]? =some K/\J.i=i/\R.nv=pV K.u/\J.T.ended=!I.G.busy/\∀(j':Nat) (J':PT),ts[j']? =some J'->J'.i=i->j'≠j->J'.T.ended=true
 cs:∀R∈rs,R.ps.length<=N
 ct:∀(i:Nat) (R:RI) (K:RJ),rs[i]? =some R->K∈us->K.i=i->K.T.ended=false->R.ps.length+K.us.length<=N
 rf:S.refused=0
section
variable {w w':World} {q:Nat} {F P F2 X O F' P' X':Nat->Prop} {p r s c c':Nat} {S S2 S':DS} {v1 v2 v3 v4:Value} {ss Tz:List PI} {ts Xg:List PT} {rs Ba:List RI} {us KF:List RJ}
def W5.c0 (h:W5 w q F P F2 X O p r s S S2 c v1 v2 v3 v4 ss ts rs us):w.cell? (aD q 0)=some (pV p):=aM h.box
def W5.c1 (h:W5 w q F P F2 X O p r s S S2 c v1 v2 v3 v4 ss ts rs us):w.cell? (aD q 1)=some (pV r):=bG h.box
def W5.c2 (h:W5 w q F P F2 X O p r s S S2 c v1 v2 v3 v4 ss ts rs us):w.cell? (aD q 2)=some v1:=bK h.box
def W5.c3 (h:W5 w q F P F2 X O p r s S S2 c v1 v2 v3 v4 ss ts rs us):w.cell? (aD q 3)=some v2:=fQ h.box
def W5.c4 (h:W5 w q F P F2 X O p r s S S2 c v1 v2 v3 v4 ss ts rs us):w.cell? (aD q 4)=some v3:=gG h.box
def W5.c5 (h:W5 w q F P F2 X O p r s S S2 c v1 v2 v3 v4 ss ts rs us):w.cell? (aD q 5)=some v4:=sb h.box
def W5.aw {Z:Nat->Prop} (h:W5 w q F P F2 X O p r s S S2 c v1 v2 v3 v4 ss ts rs us) (b:aa Z w w') (d:∀g,(F g\/P g\/F2 g\/X g\/O g)->¬Z g):W5 w' q F P F2 X O p r s S S2 c v1 v2 v3 v4 ss ts rs us:=by
 have f:=λg a=>d g (.inr (.inr (.inr (.inr a))));exact⟨(b.block q (h.pi q h.oq) (f q h.oq)).trans h.box,h.oq,λg a=>i5 (h.pi g a) b.size,h.pw.aw b (λg a=>d g (.inl a)) (λg a=>d g (.inr (.inl a))),h.rw.aw b (λg a=>d g (.inr (.inr (.inl a)))) (λg a=>d g (.inr (.inr (.inr (.inl a))))),aF h.o1 (λg e=>b.block g (h.pi g (h.q1 g e)) (f g (h.q1 g e))),h.q1,aF h.o2 (λg e=>b.block g (h.pi g (h.q2 g e)) (f g (h.q2 g e))),h.q2,aF h.o3 (λg e=>b.block g (h.pi g (h.q3 g e)) (f g (h.q3 g e))),h.q3,aF h.o4 (λg e=>b.block g (h.pi g (h.q4 g e)) (f g (h.q4 g e))),h.q4,h.ad,h.oa,h.od⟩
def W5.later (h:W5 w q F P F2 X O p r s S S2 c v1 v2 v3 v4 ss ts rs us) (a:bW w w'):W5 w' q F P F2 X O p r s S S2 c v1 v2 v3 v4 ss ts rs us:=h.aw (aa.ah (λ_=>False) a) (λ_ _ h=>h)
def W5.prog (h:W5 w q F P F2 X O p r s S S2 c v1 v2 v3 v4 ss ts rs us) (i:PW w' F' P p s S' c' Tz Xg) (d:aa (λg=>F g\/P g) w w') (m:∀g,F' g->more F w w' g) (j:Tz.map (λI=>pV I.q)=ss.map (λI=>pV I.q)) (k:Xg.map (λJ=>pV J.t)=ts.map (λJ=>pV J.t)):W5 w' q F' P F2 X O p r s S' S2 c' v1 v2 v3 v4 Tz Xg rs us:=by
 have f:=h.oa;have n:Tz.length=ss.length:=by have:=congrArg List.length j;simpa using this
 have o:Xg.length=ts.length:=by have:=congrArg List.length k;simpa using this
 have l:=λg a=>(m g a).imp id (λh=>h.1);refine⟨(d.block q (h.pi q h.oq) (f q h.oq)).trans h.box,h.oq,λg a=>i5 (h.pi g a) d.size,i,h.rw.aw d (λg a b=>h.ad g b (.inl a)) (λg a b=>h.ad g b (.inr a)),by rw [n,j];exact aF h.o1 (λg e=>d.block g (h.pi g (h.q1 g e)) (f g (h.q1 g e))),h.q1,aF h.o2 (λg e=>d.block g (h.pi g (h.q2 g e)) (f g (h.q2 g e))),h.q2,by rw [o,k];exact aF h.o3 (λg e=>d.block g (h.pi g (h.q3 g e)) (f g (h.q3 g e))),h.q3,aF h.o4 (λg e=>d.block g (h.pi g (h.q4 g e)) (f g (h.q4 g e))),h.q4,λg a b=>?_,λg a b=>?_,h.od⟩
 .rcases a with a|a
  .rcases l g a with a|a
   .exact h.ad g (.inl a) b
   .rcases b with b|b
    .have:=h.rw.e.lt g b;omega
    .have:=h.rw.lt g b;omega
  .exact h.ad g (.inr a) b
 .rcases b with b|b
  .rcases l g b with b|b
   .exact h.oa g a (.inl b)
   .have:=h.pi g a;omega
  .exact h.oa g a (.inr b)
def W5.doc {i:Nat->Prop} (h:W5 w q F P F2 X O p r s S S2 c v1 v2 v3 v4 ss ts rs us) (m:RW w' i X' r s S' Ba KF) (j:aa (λg=>F2 g\/X g) w w') (x:∀g,i g->more F2 w w' g) (y:∀g,X' g->more X w w' g) (n:Ba.map (λI=>pV I.k)=rs.map (λI=>pV I.k)) (o:KF.map (λJ=>pV J.u)=us.map (λJ=>pV J.u)):W5 w' q F P i X' O p r s S S' c v1 v2 v3 v4 ss ts Ba KF:=by
 have l:=h.od;have z:Ba.length=rs.length:=by have:=congrArg List.length n;simpa using this
 have A:KF.length=us.length:=by have:=congrArg List.length o;simpa using this
 have t:=λg a=>(x g a).imp id (λh=>h.1);have v:=λg a=>(y g a).imp id (λh=>h.1);refine⟨(j.block q (h.pi q h.oq) (l q h.oq)).trans h.box,h.oq,λg a=>i5 (h.pi g a) j.size,h.pw.aw j (λg a f=>h.ad g (.inl a) f) (λg a f=>h.ad g (.inr a) f),m,aF h.o1 (λg e=>j.block g (h.pi g (h.q1 g e)) (l g (h.q1 g e))),h.q1,by rw [z,n];exact aF h.o2 (λg e=>j.block g (h.pi g (h.q2 g e)) (l g (h.q2 g e))),h.q2,aF h.o3 (λg e=>j.block g (h.pi g (h.q3 g e)) (l g (h.q3 g e))),h.q3,by rw [A,o];exact aF h.o4 (λg e=>j.block g (h.pi g (h.q4 g e)) (l g (h.q4 g e))),h.q4,λg a f=>?_,h.oa,λg a f=>?_⟩
 .have bq:=a.elim (λb=>h.pw.d.lt g b) (λb=>h.pw.lt g b);rcases f with f|f
  .exact(t g f).elim (λb=>h.ad g a (.inl b)) (λb=>by omega)
  .exact(v g f).elim (λb=>h.ad g a (.inr b)) (λb=>by omega)
 .have bq:=h.pi g a;rcases f with f|f
  .exact(t g f).elim (λb=>h.od g a (.inl b)) (λb=>by omega)
  .exact(v g f).elim (λb=>h.od g a (.inr b)) (λb=>by omega)
def vP {w:World} {x:Value} (h:w.ownsRow 0 e 1 v n xs) (b:xs[i]? =some x):∃g cp,v= .slice (some (aD g 0)) n cp/\w.cell? (aD g i)=some x:=by
 have c:=h;obtain⟨d,⟨rfl,h0⟩|⟨g,a,cur,rfl,_⟩⟩:=h
 .rw [h0] at d;have:xs= []:=List.length_eq_zero_iff.1 (by omega);rw [this] at b;cases b
 .refine⟨g,a,rfl,?_⟩;have:=c.cells (g:=g) rfl i _ b;rwa [aN,Nat.zero_add] at this
end
end
section
def bk (n:Nat) (x:Int):Int:=if n=0 then-1 else ((n-1-x.toNat%n:Nat):Int)
def TA (h:0<n) (x:Int):∃i:Nat,i<n/\bk n x=(i:Int):=⟨n-1-x.toNat%n,by omega,by unfold bk;rw [aB (by omega)]⟩
def AD (w:World) (n:Nat) (x:Int) (j:x<=9223372036854775807) (i:n<=140737488355328):
  Calls prog 70 #[iV (n:Int),iV x] w λe w'=>e= .returned (iV (bk n x))/\w'=w:=by
 by_cases h0:n=0
 .subst h0;go_in;go_wp2;go_ret;exact⟨rfl,rfl⟩
 .have f:¬(n:Int)=0:=by omega
  have g:((n:Int) == 0)=false:=by rw [fJ];omega
  have tj:bk n x=((n-1-x.toNat%n:Nat):Int):=by unfold bk;rw [aB h0]
  rw [tj];clear tj;by_cases k:x<0
  .have a:(0:Int).tmod (n:Int)=0:=(by simp);have b:x.toNat%n=0:=(by rw [show x.toNat=0 by omega];exact Nat.zero_mod n);rw [b];clear b;go_in;go_wp2;go_ret;exact⟨by congr 1;congr 1;first|omega|(simp;omega),rfl⟩
  .obtain⟨y,rfl⟩:∃y:Nat,x=(y:Int):=⟨x.toNat,by omega⟩;rw [Int.toNat_natCast];have a:(y:Int).tmod (n:Int)=((y%n:Nat):Int):=(by rw [Int.tmod_eq_emod_of_nonneg (by omega),<-Int.natCast_emod]);have c:y%n<n:=Nat.mod_lt _ (by omega);have d:IntKind.i64.wrap ((y%n:Nat):Int)=((y%n:Nat):Int):=(by rw [IntKind.wrap_i64];omega);obtain⟨m,B4⟩:=bQ (y%n);rw [<-B4] at a c d⊢;clear B4;go_in;go_wp2;go_ret;exact⟨by congr 1;congr 1;first|omega|(simp;omega),rfl⟩
def E5 (w:World) (q:Nat) (A:Nat->Prop) (p r s N:Nat):Prop:=
 ∃(F P F2 X O:Nat->Prop) (S:DS) (c:Nat) (v1 v2 v3 v4:Value) (ss:List PI) (ts:List PT) (rs:List RI) (us:List RJ),W5 w q F P F2 X O p r s S S c v1 v2 v3 v4 ss ts rs us/\Lk S s N ss ts rs us/\(∀g,(F g\/P g\/F2 g\/X g\/O g)->A g)/\ss.length<=N/\ts.length<=N/\c<=5000*N
def ec (w w':World) (q:Nat) (A:Nat->Prop) (p r s N:Nat):Prop:=∃A',E5 w' q A' p r s (N+2)/\aa A w w'/\∀g,A' g->A g\/w.heap.size<=g
section
variable {w w':World} {q:Nat} {F P F2 X O A:Nat->Prop} {p r s c N:Nat} {S:DS} {v1 v2 v3 v4:Value} {ss:List PI} {ts:List PT} {rs:List RI} {us:List RJ}
def V.Inv.more {t a:Nat} (h:V.Inv S s ls t) (b:t<=a):V.Inv S s ls a:=⟨h.ok,h.pZ,h.p6,h.p2,h.l0,by have:=h.lt;omega,h.ol,h.li,h.al⟩
def Lk.more (h:Lk S s N ss ts rs us) (a:N<=M):Lk S s M ss ts rs us:=⟨h.sl,h.sg,h.tl,h.tg,h.inv.more a,h.now,λR f=>j3 (h.cs R f) a,λi R K b c d e=>j3 (h.ct i R K b c d e) a,h.rf⟩
def ec.idle (h:W5 w' q F P F2 X O p r s S S c v1 v2 v3 v4 ss ts rs us) (d:Lk S s N ss ts rs us) (a:∀g,(F g\/P g\/F2 g\/X g\/O g)->A g) (e:ss.length<=N) (f:ts.length<=N) (i:c<=5000*N) (b:bW w w'):ec w w' q A p r s N:=
   ⟨A,⟨F,P,F2,X,O,S,c,v1,v2,v3,v4,ss,ts,rs,us,h,d.more (by omega),a,by omega,by omega,by omega⟩,aa.ah _ b,λ_ h=> .inl h⟩
end
end
section
section
variable {w w':World} {q:Nat} {F P F2 X O A:Nat->Prop} {p r s c N:Nat} {S:DS} {v1 v2 v3 v4:Value} {ss:List PI} {ts:List PT} {rs:List RI} {us:List RJ}
def AE {w:World} (h:w.ownsRow 0 e 1 v n xs):∃a cp,v= .slice a n cp:=by
 obtain⟨_,⟨rfl,h0⟩|⟨g,b,cur,rfl,_⟩⟩:=h
 .exact⟨none,0,by rw [h0]⟩
 .exact⟨_,_,rfl⟩
def W5.tx (h:W5 w q F P F2 X O p r s S S c v1 v2 v3 v4 ss ts rs us) (a:Lk S s N ss ts rs us) (d:j<ts.length):∃J K I R,ts[j]? =some J/\us[j]? =some K/\ss[J.i]? =some I/\rs[J.i]? =some R/\K.i=J.i/\K.T=J.T/\R.G=I.G:=by
 obtain⟨I,b,_⟩:=h.pw.tx ts[j] (List.getElem_mem d);have f:us[j]? =some (us[j]'(by rw [a.tl];exact d)):=List.getElem?_eq_getElem _;have e:=List.getElem?_eq_getElem d;have g:rs[ts[j].i]? =some (rs[ts[j].i]'(by rw [a.sl];exact((mL.1 b).1))):=List.getElem?_eq_getElem _;obtain⟨k,l⟩:=a.tg j _ _ e f;exact⟨_,_,I,_,e,f,b,g,k,l,a.sg _ _ _ b g⟩
end
end
section
section
variable {w w':World} {F P F2 X:Nat->Prop} {p r s c N q l m t n i j:Nat} {S:DS} {G:SG} {T T':TG} {ss:List PI} {ts:List PT} {rs:List RI} {us:List RJ} {I:PI} {R:RI} {J J':PT} {K K':RJ}
def it.aa9 (h:it w F p s c q l m S G) (b:mD w F q l m t n G T) (e:aa (λg=>g=t\/g=n) w w'):it w' F p s c q l m S G:=
   ⟨h.d.aw e (λg f a=>by rcases a with rfl|rfl;exact b.nt f;exact b.nn f),h.st.aw e (λa=>by rcases a with a|a;exact b.tq a.symm;exact b.nq a.symm),h.lp.aw e (λa=>by rcases a with a|a;exact b.tl a.symm;exact b.nl a.symm),h.ch.aw e (λa=>by rcases a with a|a;exact b.tm a.symm;exact b.nm a.symm),h.nq,h.nl,h.nm,h.ql,h.qm,h.lm,h.lk,h.bg,h.hs,h.kb⟩
def mJ {l:List α} {i:Nat} {a:α} (h:l[i]? =some a):l.set i a=l:=by
 apply List.ext_getElem?;intro n;by_cases e:n=i
 .subst e;rw [List.getElem?_set_self (mL.1 h).1,h]
 .rw [List.getElem?_set_ne (λh=>e h.symm)]
def Lk.Lf (h:Lk S s N ss ts rs us) (d:ts[j]? =some J) (f:us[j]? =some K) (w:J'.i=J.i) (E:K'.i=K.i) (O:K'.u=K.u) (F:K'.T=J'.T) (x:J'.T.ended=J.T.ended) (Z:K'.us.length<=K.us.length+1):Lk S s (N+1) ss (ts.set j J') rs (us.set j K'):=by
 obtain⟨U,W⟩:=h.tg j J K d f;refine⟨h.sl,h.sg,by rw [List.length_set,List.length_set];exact h.tl,λn A B a l=>?_,h.inv.more (by omega),λi I R X g=>?_,λR g=>by have:=h.cs R g;omega,λi R B g l k G=>?_,h.rf⟩
 .rcases dr d a with ⟨P,rfl⟩|⟨H,a⟩<;> rcases dr f l with ⟨Q,rfl⟩|⟨L,l⟩
  .exact⟨by rw [E,w,U],F⟩
  .exact absurd P L
  .exact absurd Q H
  .exact h.tg n A B a l
 .have b:∀(n:Nat) (A:PT),(ts.set j J')[n]? =some A->∃c,ts[n]? =some c/\c.i=A.i/\c.T.ended=A.T.ended:=λn A a=>by
   rcases dr d a with ⟨rfl,rfl⟩|⟨H,a⟩
   .exact⟨J,d,w.symm,x.symm⟩
   .exact⟨A,a,rfl,rfl⟩
  rcases h.now i I R X g with ⟨o,p,q⟩|⟨n,A,B,o,p,q,C,D,M⟩
  .refine .inl ⟨o,p,λn A a k=>?_⟩;obtain⟨c,r,t,v⟩:=b n A a;rw [<-v];exact q n c r (by rw [t];exact k)
  .have rest:∀(m:Nat) (A':PT),(ts.set j J')[m]? =some A'->A'.i=i->m≠n->A'.T.ended=true:=λm A' y k dM=>by
    obtain⟨c,r,t,v⟩:=b m A' y;rw [<-v];exact M m c r (by rw [t];exact k) dM
   by_cases e:n=j
   .subst e;obtain rfl:A=J:=Option.some.inj (o.symm.trans d);obtain rfl:B=K:=Option.some.inj (p.symm.trans f);exact .inr ⟨n,J',K',List.getElem?_set_self ((mL.1 d).1),List.getElem?_set_self ((mL.1 f).1),by rw [w];exact q,by rw [O];exact C,by rw [x];exact D,rest⟩
   .exact .inr ⟨n,A,B,by rw [List.getElem?_set_ne (λh=>e h.symm)];exact o,by rw [List.getElem?_set_ne (λh=>e h.symm)];exact p,q,C,D,rest⟩
 .obtain⟨n,Y⟩:=List.mem_iff_getElem?.1 l;rcases dr f Y with ⟨_,rfl⟩|⟨L,z⟩
  .have:=h.ct i R K g (gz f) (by rw [<-E];exact k) (by rw [W,<-x,<-F];exact G);omega
  .have:=h.ct i R B g (gz z) k G;omega
def PW.Lf (h:PW w F P p s S c ss ts) (b:ss[J.i]? =some I) (d:ts[j]? =some J) (nQ:w'.heap[J.t]? =some (.cells (BI I.q J.n T') 88 (0,0))) (nh:Ch w' J.n T'.puts) (pb:∀x∈T'.puts,x.1<I.G.y.blocks) (e:aa (λg=>g=J.t\/g=J.n) w w'):PW w' F P p s S c ss (ts.set j {J with T:=T'}):=by
 have:=h.on b d rfl rfl (λg a=> .inl a) ((h.ES b).aa9 (h.Ld d b) e) nQ nh pb (e.mono (λg a=>by rcases a with a|a;exact .inr (.inr (.inr (.inr (.inl a))));exact .inr (.inr (.inr (.inr (.inr a))))));rwa [mJ b] at this
end
end
section
def gg {f:α->Value} {l:List α} {a b:α} (c:l[i]? =some a) (h:f b=f a):(l.set i b).map f=l.map f:=by
 rw [List.map_set];apply List.ext_getElem?;intro n;by_cases e:n=i
 .subst e;rw [List.getElem?_set_self (by simpa using ((mL.1 c).1)),Be,c,h];rfl
 .rw [List.getElem?_set_ne (λh=>e h.symm)]
def RW.Lf {w w':World} {F X X':Nat->Prop} {r s:Nat} {S:DS} {rs:List RI} {us:List RJ} {K K':RJ} (h:RW w F X r s S rs us) (l:rs[K.i]? =some R) (o:us[j]? =some K) (E:K'.u=K.u) (t:K'.i=K.i) (z:∀g,X g->X' g) (m:∀g,X' g->more X w w' g) (nQ:nY w' X' R.k K'.u R.G K'.T K'.tv K'.us) (n:K'.tv.ownBlock=K.tv.ownBlock\/∀g,K'.tv.ownBlock=some g->w.heap.size<=g) (v:aa (λg=>g=K.u\/K.tv.ownBlock=some g) w w') (bq:∀g,X' g->g<w'.heap.size):RW w' F X' r s S rs (us.set j K'):=by
 have f:=h.jR l;have d:=h.ph o l;have BY:∀g,X' g->¬F g:=λg b a=>by
  rcases m g b with y|y
  .exact h.fM g y a
  .have:=h.e.lt g a;omega
 have bw:iL w' F X' r s S R.k R.kl R.G R.pv R.ps R.hm R.nv:=by
  refine f.other v z BY bq (λa=>?_) (λa=>?_) (λg e a=>?_) (λg c H b A a=>?_) (.inl rfl)
  .rcases a with a|a
   .exact cY f.st d.tx (by decide) a
   .exact d.pl.ne a f.st (by decide) rfl
  .rcases a with a|a
   .exact cY f.lp d.tx (by decide) a
   .exact d.pl.ne a f.lp (by decide) rfl
  .rcases a with a|a
   .exact f.pl.ne e d.tx (by decide) a
   .exact h.r3 R (gz l) K (gz o) g e a
  .have Bt:=A;obtain⟨cur,C,_⟩:=Bt;rcases a with a|a
   .exact A.ne d.tx (by decide) a
   .exact d.pl.ne a C (by decide) rfl
 have D:=h.e.aw v (λg b a=>by
  rcases a with a|a
  .exact h.fM g (a▸d.xt) b
  .exact h.fM g (d.pl.row g a) b)
 have:=h.on (I':=R) (J':=K') l o rfl rfl rfl rfl E t D z m bw nQ (.inl rfl) n (λg x p=>by
  rcases n with q|q
  .rw [q] at p;exact h.r3 R (gz l) K (gz o) g x p
  .have:=q g p;have:=f.pl.rlt g x;omega) (v.mono (λg b=>by rcases b with b|b;exact .inr (.inr (.inr (.inl b)));exact .inr (.inr (.inr (.inr (.inr b)))))) (.inl rfl)
 rwa [mJ l] at this
section
variable {w w':World} {q:Nat} {F P F2 X O A:Nat->Prop} {p r s c N:Nat} {S:DS} {v1 v2 v3 v4:Value} {ss:List PI} {ts:List PT} {rs:List RI} {us:List RJ}
end
end
section
section
variable {s N M i j:Nat} {S S':DS} {ss:List PI} {ts:List PT} {rs:List RI} {us:List RJ} {I I':PI} {R R':RI} {J J':PT} {K K':RJ}
def Lk.upd (h:Lk S s N ss ts rs us) (Q:ss[i]? =some I) (r:rs[i]? =some R) (f:ts[j]? =some J) (U:us[j]? =some K) (PH:J.i=i) (e1:J'.i=J.i) (e2:K'.i=K.i) (e3:K'.u=K.u) (e4:K'.T=J'.T) (e5:R'.G=I'.G) (e6:R'.nv=R.nv)
    (lG:(J'.T.ended=J.T.ended/\I'.G.busy=I.G.busy)\/(J.T.ended=false/\J'.T.ended=true/\I'.G.busy=false)) (hM:N<=M) (W:V.Inv S' s ((ss.set i I').map (λI=>I.G.L)) M) (og:R'.ps.length<=M) (V0:J'.T.ended=false->R'.ps.length+K'.us.length<=M) (DA:R'.ps=R.ps\/J.T.ended=false) (ET:S'.refused=S.refused):
  Lk S' s M (ss.set i I') (ts.set j J') (rs.set i R') (us.set j K'):=by
 have KV:=(mL.1 Q).1;have rF:=(mL.1 r).1;obtain⟨g1,g2⟩:=h.tg j J K f U;have O:∀(n:Nat) (A:PT),(ts.set j J')[n]? =some A->n≠j->ts[n]? =some A:=λn A d dM=>by
  rcases dr f d with ⟨e,_⟩|⟨_,d⟩
  .exact absurd e dM
  .exact d
 refine⟨by rw [List.length_set,List.length_set];exact h.sl,λn A B d c=>?_,by rw [List.length_set,List.length_set];exact h.tl,λn A B d c=>?_,W,λn A B d c=>?_,λB c=>?_,λn B C c k a Z=>?_,ET.trans h.rf⟩
 .rcases dr Q d with ⟨E,rfl⟩|⟨z,d⟩<;> rcases dr r c with ⟨P,rfl⟩|⟨v,c⟩
  .exact e5
  .exact absurd E v
  .exact absurd P z
  .exact h.sg n A B d c
 .rcases dr f d with ⟨E,rfl⟩|⟨z,d⟩<;> rcases dr U c with ⟨P,rfl⟩|⟨v,c⟩
  .exact⟨by rw [e2,e1,g1],e4⟩
  .exact absurd E v
  .exact absurd P z
  .exact h.tg n A B d c
 .rcases dr Q d with ⟨E,rfl⟩|⟨z,hA'⟩<;> rcases dr r c with ⟨P,rfl⟩|⟨v,x⟩
  .subst E;rcases h.now n I R Q r with ⟨p,q,b⟩|⟨m,C,D,p,q,b,F,H,t⟩
   .have l:=b j J f PH;rcases lG with ⟨g,w⟩|⟨g,_,_⟩
    .refine .inl ⟨e6.trans p,w.trans q,λm C k a=>?_⟩;rcases dr f k with ⟨_,rfl⟩|⟨_,k⟩
     .rw [g];exact l
     .exact b m C k a
    .rw [l] at g;cases g
   .by_cases e:m=j
    .subst e;obtain rfl:C=J:=Option.some.inj (p.symm.trans f);obtain rfl:D=K:=Option.some.inj (q.symm.trans U);refine .inr ⟨m,J',K',List.getElem?_set_self ((mL.1 f).1),List.getElem?_set_self ((mL.1 U).1),by rw [e1];exact b,by rw [e6,e3];exact F,?_,λy A' Lg a dM=>t y A' (O y A' Lg dM) a dM⟩;rcases lG with ⟨g,w⟩|⟨_,w,b3⟩
     .rw [g,w];exact H
     .rw [w,b3];rfl
    .have l:=t j J f PH (λh=>e h.symm);rcases lG with ⟨g,w⟩|⟨g,_,_⟩
     .refine .inr ⟨m,C,D,by rw [List.getElem?_set_ne (λh=>e h.symm)];exact p,by rw [List.getElem?_set_ne (λh=>e h.symm)];exact q,b,e6.trans F,by rw [w];exact H,λy A' Lg a dM=>?_⟩;rcases dr f Lg with ⟨_,rfl⟩|⟨_,Lg⟩
      .rw [g];exact l
      .exact t y A' Lg a dM
     .rw [l] at g;cases g
  .exact absurd E v
  .exact absurd P z
  .have Y:∀(m:Nat) (C:PT),(ts.set j J')[m]? =some C->C.i=n->ts[m]? =some C:=λm C k a=>by
    rcases dr f k with ⟨_,rfl⟩|⟨_,k⟩
    .rw [e1,PH] at a;exact absurd a.symm z
    .exact k
   rcases h.now n A B hA' x with ⟨p,q,b⟩|⟨m,C,D,p,q,b,F,H,t⟩
   .exact .inl ⟨p,q,λm C k a=>b m C (Y m C k a) a⟩
   .have dM:m≠j:=λe=>by
     subst e;obtain rfl:C=J:=Option.some.inj (p.symm.trans f);rw [PH] at b;exact z b.symm
    exact .inr ⟨m,C,D,by rw [List.getElem?_set_ne (λh=>dM h.symm)];exact p,by rw [List.getElem?_set_ne (λh=>dM h.symm)];exact q,b,F,H,λy A' Lg a X=>t y A' (Y y A' Lg a) a X⟩
 .obtain⟨n,X⟩:=List.mem_iff_getElem?.1 c;rcases dr r X with ⟨_,rfl⟩|⟨_,X⟩
  .exact og
  .have:=h.cs B (gz X);omega
 .obtain⟨m,hm⟩:=List.mem_iff_getElem?.1 k;rcases dr U hm with ⟨ek,rfl⟩|⟨nk,hm'⟩
  .rcases dr r c with ⟨_,rfl⟩|⟨v,_⟩
   .exact V0 (by rw [<-e4];exact Z)
   .rw [e2,g1,PH] at a;exact absurd a.symm v
  .rcases dr r c with ⟨rfl,rfl⟩|⟨v,x⟩
   .rcases DA with DA|DA
    .have:=h.ct n R C r (gz hm') a Z;rw [DA];omega
    .exfalso;have B7:m<ts.length:=(by rw [<-h.tl];exact(mL.1 hm').1);have hD:=List.getElem?_eq_getElem B7;obtain⟨f1,f2⟩:=h.tg m _ C hD hm';have hDe:ts[m].T.ended=false:=(by rw [<-f2];exact Z);have hDi:ts[m].i=n:=(by rw [<-f1];exact a);rcases h.now n I R Q r with ⟨_,_,b⟩|⟨o,A,B,p,q,b,F,H,t⟩
     .have:=b j J f PH;rw [DA] at this;cases this
     .by_cases eo:o=j
      .subst eo;have:=t m _ hD hDi nk;rw [hDe] at this;cases this
      .have:=t j J f PH (λh=>eo h.symm);rw [DA] at this;cases this
   .have:=h.ct n B C x (gz hm') a Z;omega
end
end
section
def RW.reG {w:World} {F X:Nat->Prop} {r s:Nat} {S:DS} {rs:List RI} {us:List RJ} {G':SG} (h:RW w F X r s S rs us) (m:rs[i]? =some R) (p:G'.y=R.G.y) (t:G'.L=R.G.L) (H:G'.ov=R.G.ov):RW w F X r s S (rs.set i {R with G:=G'}) us:=by
 have d:=h.jR m;have o:∀{n:Nat} {A:RI},(rs.set i {R with G:=G'})[n]? =some A->∃q,rs[n]? =some q/\q.pv=A.pv:=λ{n A} j=>by
  rcases dr m j with ⟨rfl,rfl⟩|⟨_,j⟩
  .exact⟨R,m,rfl⟩
  .exact⟨A,j,rfl⟩
 refine⟨h.e,h.fM,h.lt,λA D=>?_,λK O=>?_,by rw [mY (f:=λx:RI=>x.k) (b:={R with G:=G'}) m rfl];exact h.nk,by rw [mY (f:=λx:RI=>x.kl) (b:={R with G:=G'}) m rfl];exact h.nl,h.nu,λa b A B P Q oE g z C=>?_,h.r2,λA D B N g z C=>?_⟩
 .obtain⟨n,j⟩:=List.mem_iff_getElem?.1 D;rcases dr m j with ⟨_,rfl⟩|⟨_,j⟩
  .exact⟨by show lj _ _ _ _ G'.y _ _ _;rw [p];exact d.st,by show cK _ _ _ G'.L;rw [t];exact d.lp,d.pl,d.xk,d.xl,d.fM,d.lt,by show G'.L.Ok s;rw [t];exact d.lk,by show G'.L.begun=true;rw [t];exact d.bg,by show G'.y.home+G'.y.blocks<=s;rw [p];exact d.hs,by show G'.L.f+2+G'.L.n<=G'.y.home;rw [t,p];exact d.lh,by show G'.ov=_;rw [H];exact d.ov,d.hm,by show∀x∈R.ps,x.1<G'.y.blocks;rw [p];exact d.kb,by show G'.L.dead S=false->∀b,b<G'.y.blocks->CM.get G'.ov b=none->∀c,jB R.ps b=some c->S.now (G'.y.home+b)=c;rw [t,p,H];exact d.un⟩
  .exact h.jR j
 .obtain⟨M,E,l⟩:=h.tx K O;by_cases e:K.i=i
  .rw [e,m] at E;cases E;exact⟨{R with G:=G'},by rw [e];exact List.getElem?_set_self ((mL.1 m).1),⟨l.tx,l.xt,l.pl,l.nd,l.pu,by show∀x∈K.us,x.1<G'.y.blocks;rw [p];exact l.kb,l.Eg⟩⟩
  .exact⟨M,by rw [List.getElem?_set_ne (λh=>e h.symm)];exact E,l⟩
 .obtain⟨q,u,v⟩:=o P;obtain⟨T,I,J⟩:=o Q;exact h.r1 _ _ _ _ u I oE g (v▸z) (J▸C)
 .obtain⟨n,j⟩:=List.mem_iff_getElem?.1 D;obtain⟨q,u,v⟩:=o j;exact h.r3 q (gz u) B N g (v▸z) C
section
variable {w w':World} {q:Nat} {F P F2 X O A:Nat->Prop} {p r s c N:Nat} {S:DS} {v1 v2 v3 v4:Value} {ss:List PI} {ts:List PT} {rs:List RI} {us:List RJ}
end
end
section
section
variable {w w':World} {q:Nat} {F P F2 X O A:Nat->Prop} {p r s c N:Nat} {S:DS} {v1 v2 v3 v4:Value} {ss:List PI} {ts:List PT} {rs:List RI} {us:List RJ}
def AF (h:W5 w q F P F2 X O p r s S S c v1 v2 v3 v4 ss ts rs us) (Q:Lk S s N ss ts rs us) (_hA:∀g,(F g\/P g\/F2 g\/X g\/O g)->A g) (mm:∀g,A g->g<w.heap.size) (h1:ss.length<=N) (Z:ts.length<=N) (_hc:c<=5000*N) (hN:N<=3999999990000) (b f n:Int) (t:Option Addr) (v u:Nat) (H:Option Addr) (K J:Nat) (x y z:Int) (AG:b<=9223372036854775807):
  Calls prog 27 #[pV q, .agg (j2 12 b f n t v u H K J x y z)] w λe w'=>e= .returned (.bool true)/\bW w w':=by
 obtain⟨W,d⟩:=bQ (w.alloc (.cells (j2 12 b f n t v u H K J x y z) 42));have EN:bW w W:=by rw [d];exact(bi w.heap.size w).alloc (bS _) _
 have BX:W.heap[w.heap.size]? =some (.cells (j2 12 b f n t v u H K J x y z) 42 (0,0)):=by rw [d];exact heap_alloc_new _ _
 have Hu:W.heap.size=w.heap.size+1:=by rw [d,World.size_alloc]
 have uf:¬A w.heap.size:=λhx=>by have:=mm _ hx;omega
 obtain⟨a3,c3,E⟩:=AE h.o1;have TB:=h.later EN;have d0:W.cell? (aD w.heap.size 0)=some (iV 12):=aM BX;have d1:W.cell? (aD w.heap.size 1)=some (iV b):=bG BX;have l:=TB.c2;have tj:=λk=>AD (W.drewN k) ss.length b AG (by omega);obtain⟨L,o,CW,MA⟩:=cO TB Q EN BX;rw [E] at l;clear h Q TB EN BX;go_in;go_wp2_with fail;rw [<-d];clear d;go_quiet (first|(go_at_call 70;refine Calls.quiet_of_same (tj _)));rename_i nq _;have m:bW W (W.drewN nq):=below_drewN (bi _ _) nq;have fP:=(L.later m);have uG:=(CW.trans (m.mono (by omega)));have Yp:(W.drewN nq).heap.size=w.heap.size+1:=Hu;have UQ:=((m.block w.heap.size (by omega)).trans MA);clear L CW MA tj m d0 d1 l Hu;generalize W.drewN nq=V at*;have dV0:V.cell? (aD w.heap.size 0)=some (iV 12):=aM UQ;have dV2:V.cell? (aD w.heap.size 2)=some (iV f):=bK UQ;have l:=fP.c2;have e5:=fP.c3;by_cases T:ss.length=0
 .have fO:bk ss.length b= -1:=by unfold bk;rw [aG T]
  rw [fO];go_wp2;go_ret;exact⟨rfl,uG⟩
 .obtain⟨j,M,Yw⟩:=TA (show 0<ss.length by omega) b;rw [Yw];have Zg:¬(j:Int)<0:=by omega
  have YN:(j:Int)<(ss.length:Int):=by omega
  obtain⟨I,C⟩:∃I,ss[j]? =some I:=⟨ss[j],List.getElem?_eq_getElem M⟩;obtain⟨R,D⟩:∃R,rs[j]? =some R:=⟨rs[j]'(by rw [o.sl];exact M),List.getElem?_eq_getElem _⟩;obtain⟨g3,cp3,TC,t3⟩:=vP (i:=j) fP.o1 (by rw [Be,C];rfl);obtain⟨g4,cp4,TD,t4⟩:=vP (i:=j) fP.o2 (by rw [Be,D];rfl);rw [TC] at l;rw [TD,o.sl] at e5;clear Yw T;have Oz:=(λ(a:World) (hb:bW V a)=>((fP.later hb).rw.jR D).st);go_wp2_with fail;refine(KD (fP.pw.ES C).st).mono ?_;rintro e a ⟨rfl,bd⟩;have bo:=Oz a bd;rw [(o.sg j I R C D)] at bo;have iq:=aJ a (.cells #[.int .i64 (I.G.y.log:Int), .int .i64 (I.G.y.home:Int), .int .i64 (I.G.y.blocks:Int), .int .i64 (I.G.y.nodes:Int), .int .i64 (I.G.y.data:Int)] 75);have L5:=heap_alloc_new a (.cells #[.int .i64 (I.G.y.log:Int), .int .i64 (I.G.y.home:Int), .int .i64 (I.G.y.blocks:Int), .int .i64 (I.G.y.nodes:Int), .int .i64 (I.G.y.data:Int)] 75);have fK:=bo.later iq;have dP:=(bd.trans (iq.mono bd.size));clear bd bo;go_wp2_with fail;generalize a.alloc (.cells #[.int .i64 (I.G.y.log:Int), .int .i64 (I.G.y.home:Int), .int .i64 (I.G.y.blocks:Int), .int .i64 (I.G.y.nodes:Int), .int .i64 (I.G.y.data:Int)] 75)=Y at*;have U:((λw':World=>w'.cell? (aD a.heap.size 0)=some (iV (I.G.y.log:Int))/\w'.cell? (aD a.heap.size 1)=some (iV (I.G.y.home:Int))/\w'.cell? (aD a.heap.size 2)=some (iV (I.G.y.blocks:Int))/\w'.cell? (aD a.heap.size 3)=some (iV (I.G.y.nodes:Int))/\w'.cell? (aD a.heap.size 4)=some (iV (I.G.y.data:Int))/\w'.cell? (aD R.k 2)=some (iV (I.G.y.log:Int))/\w'.cell? (aD R.k 3)=some (iV (I.G.y.home:Int))/\w'.cell? (aD R.k 4)=some (iV (I.G.y.blocks:Int))/\w'.cell? (aD R.k 5)=some (iV (I.G.y.nodes:Int))/\w'.cell? (aD R.k 6)=some (iV (I.G.y.data:Int))) Y):=⟨aM L5,bG L5,bK L5,fQ L5,gG L5,fK.c2,fK.c3,fK.c4,fK.c5,fK.c6⟩;clear fK iq L5;go_region_held3 (λw'=>w'.cell? (aD a.heap.size 0)=some (iV (I.G.y.log:Int))/\w'.cell? (aD a.heap.size 1)=some (iV (I.G.y.home:Int))/\w'.cell? (aD a.heap.size 2)=some (iV (I.G.y.blocks:Int))/\w'.cell? (aD a.heap.size 3)=some (iV (I.G.y.nodes:Int))/\w'.cell? (aD a.heap.size 4)=some (iV (I.G.y.data:Int))/\w'.cell? (aD R.k 2)=some (iV (I.G.y.log:Int))/\w'.cell? (aD R.k 3)=some (iV (I.G.y.home:Int))/\w'.cell? (aD R.k 4)=some (iV (I.G.y.blocks:Int))/\w'.cell? (aD R.k 5)=some (iV (I.G.y.nodes:Int))/\w'.cell? (aD R.k 6)=some (iV (I.G.y.data:Int))) (exact U) (fail);go_wp2;go_ret;exact⟨by simp,uG.trans (dP.drew.mono uG.size)⟩
end
end
section
def O5 {S:DS} {s:Nat} (du:S.Ok s) (L M:LG) (h:M.dead (L.sync S s).2=false):M.dead S=false/\∀j,j<s->(L.sync S s).2.now j=S.now j:=by
 unfold LG.sync at*;split at h
 .rename_i q;rw [aG q];exact⟨h,λ_ _=>rfl⟩
 .rename_i q;rw [aB q];refine⟨?_,λj b=>eY du b⟩;have a:=V.jL h;rw [fX] at a;unfold LG.dead;simp [(V.jL (V.km (Decidable.of_not_not q)).1).2,a.1]
def Lk.TE {S S':DS} {s N:Nat} {b:List PI} {d:List PT} {rs:List RI} {us:List RJ} (h:Lk S s N b d rs us) (c:N<=M) (a:V.Inv S' s (b.map (λI=>I.G.L)) M) (ET:S'.refused=S.refused):Lk S' s M b d rs us:=⟨h.sl,h.sg,h.tl,h.tg,a,h.now,λR k=>j3 (h.cs R k) c,λi R K e f g j=>j3 (h.ct i R K e f g j) c,ET.trans h.rf⟩
def Lk.synced {S:DS} {s N:Nat} {a:List PI} {c:List PT} {rs:List RI} {us:List RJ} (h:Lk S s N a c rs us) (d:a[j]? =some I):Lk (I.G.L.sync S s).2 s (N+2) a c rs us:=by
 have b:(a.map (λI=>I.G.L))[j]? =some I.G.L:=by rw [Be,d];rfl
 have:=h.inv.sync b;rw [mJ b] at this;exact h.TE (by omega) (this.more (by omega)) (EQ _ _ _)
section
variable {w w':World} {q:Nat} {F P F2 X O A:Nat->Prop} {p r s c N:Nat} {S:DS} {v1 v2 v3 v4:Value} {ss:List PI} {ts:List PT} {rs:List RI} {us:List RJ}
end
end
section
def AH {S:DS} {s:Nat} (du:S.Ok s) (d:∀q∈G.ov,G.y.home+q.1<s/\q.2.length=512):(G.check S s).2.1.life=S.life:=by
 obtain⟨c,a,_⟩:=qw (L:=G.L) du;obtain⟨_,b,_,_,_⟩:=eC (h0:=G.y.home) (ms:=G.ov) c d;have SE:=C5 G.L (aE (G.L.sync S s).2 s G.y.home G.ov).2 s;unfold SG.check;split
 .exact a
 .split
  .exact b.trans a
  .split
   .exact SE.1.trans (b.trans a)
   .exact SE.1.trans (b.trans a)
def AI (G:SG) (S:DS) (s:Nat):(G.check S s).2.2.busy=G.busy:=by
 unfold SG.check;split
 .rfl
 .split
  .rfl
  .split <;> rfl
def Is {S:DS} {s t i:Nat} (h:V.Inv S s ls t) (g:ls[i]? =some G.L) (d:∀q∈G.ov,G.y.home+q.1<s/\q.2.length=512):(G.check S s).2.1=S\/∀n M,ls[n]? =some M->n≠i->M.dead (G.check S s).2.1=true:=by
 by_cases b:G.L.bj S=0
 .refine .inr (λn M a dM=>?_);obtain⟨hd,_⟩:=V.km b;obtain⟨f,_⟩:=V.jL hd;cases j:M.dead (G.check S s).2.1
  .have c:=(V.jL j).1;rw [AH h.ok d] at c;exact absurd (V.p7 h.li g a (c.trans f.symm)) dM
  .rfl
 .refine .inl ?_;have e:G.L.sync S s=(G.L.bj S,S):=by unfold LG.sync;rw [aG b]
  unfold SG.check;rw [e,aG b]
section
variable {s N M i:Nat} {S S':DS} {ss:List PI} {ts:List PT} {rs:List RI} {us:List RJ} {I I':PI} {R R':RI}
def Lk.akt (h:Lk S s N ss ts rs us) (j:ss[i]? =some I) (c:rs[i]? =some R) (t:R'.G=I'.G) (u:R'.nv=R.nv) (v:I'.G.busy=I.G.busy) (o:R'.ps=R.ps) (f:N<=M) (e:V.Inv S' s ((ss.set i I').map (λI=>I.G.L)) M) (ET:S'.refused=S.refused):Lk S' s M (ss.set i I') ts (rs.set i R') us:=by
 refine⟨by rw [List.length_set,List.length_set];exact h.sl,λn A B b a=>?_,h.tl,h.tg,e,λn A B b a=>?_,λB a=>?_,λn B C a p r q=>?_,ET.trans h.rf⟩
 .rcases dr j b with ⟨d,rfl⟩|⟨l,b⟩<;> rcases dr c a with ⟨g,rfl⟩|⟨m,a⟩
  .exact t
  .exact absurd d m
  .exact absurd g l
  .exact h.sg n A B b a
 .rcases dr j b with ⟨d,rfl⟩|⟨l,b⟩<;> rcases dr c a with ⟨g,rfl⟩|⟨m,a⟩
  .rw [u,v,d];exact h.now i I R j c
  .exact absurd d m
  .exact absurd g l
  .exact h.now n A B b a
 .obtain⟨n,k⟩:=List.mem_iff_getElem?.1 a;rcases dr c k with ⟨_,rfl⟩|⟨_,k⟩
  .rw [o];exact j3 (h.cs R (gz c)) f
  .exact j3 (h.cs B (gz k)) f
 .rcases dr c a with ⟨d,rfl⟩|⟨_,a⟩
  .rw [o];exact j3 (h.ct i R C c p (r.trans d) q) f
  .exact j3 (h.ct n B C a p r q) f
end
def Df {S:DS} (h:L.bj S=0):L.dead S=false/\L.begun=true:=V.km h
def Lh {S:DS} (h:L.dead S=false):L.life=S.life/\S.fuse≠0:=V.jL h
section
variable {w w':World} {q:Nat} {F P F2 X O A:Nat->Prop} {p r s c N:Nat} {S:DS} {v1 v2 v3 v4:Value} {ss:List PI} {ts:List PT} {rs:List RI} {us:List RJ}
end
end
section
def It {S:DS} {s:Nat} (a:L.Ok s):(L.append S s d).2.1.life=S.life:=by
 have c:=a.n1;obtain⟨b,_,_,_⟩:=mz (L:=L) (S:=S) (s:=s) (d:=d) (by omega) a.s (dh d.length);unfold LG.append;split
 .rfl
 .split <;> exact b
def Iu (G:SG) (S:DS) (s:Nat) (c:CM):(G.bI S s c).2.2.busy=G.busy:=by
 have a:(G.made S s (cu c).length).2.2.busy=G.busy:=by
  unfold SG.made;split
  .rfl
  .exact AI G S s
 unfold SG.bI;split
 .rfl
 .split
  .exact a
  .split <;> exact a
section
variable {G:SG} {T:TG} {S:DS} {s t i:Nat} {ls:List LG} {c:CM}
def Iv (h:V.Inv S s ls t) (b:ls[i]? =some G.L) (g:G.L.begun=true) (a:∀q∈G.ov,G.y.home+q.1<s/\q.2.length=512/\Bytes q.2) (Ye:G.ov.length<=2048) (BO:G.L.f+2+G.L.n<=G.y.home):(G.bI S s c).2.1.life=S.life:=by
 have d:V.Inv (G.made S s (cu c).length).2.1 s (ls.set i (G.made S s (cu c).length).2.2.L) t:=by
  unfold SG.made;split
  .exact h.same b
  .exact h.check b g a Ye BO
 have B7:(G.made S s (cu c).length).2.1.life=S.life:=by
  unfold SG.made;split
  .rfl
  .exact AH h.ok (λq e=>⟨(a q e).1,(a q e).2.1⟩)
 have du:=(d.at (List.getElem?_set_self ((mL.1 b).1))).1;unfold SG.bI;split
 .rfl
 .split
  .exact B7
  .split <;> exact(It du).trans B7
def BZ (h:V.Inv S s ls t) (d:ls[i]? =some G.L) (l:G.L.begun=true) (j:∀q∈G.ov,G.y.home+q.1<s/\q.2.length=512/\Bytes q.2) (Ye:G.ov.length<=2048) (BO:G.L.f+2+G.L.n<=G.y.home) (o:∀q∈T.puts,Bytes q.2) (k:T.state G S=0):
    (T.bI G S s).2.2.1.y=G.y/\V.Inv (T.bI G S s).2.1 s (ls.set i (T.bI G S s).2.2.1.L) t/\((T.bI G S s).2.1=S\/∀n M,ls[n]? =some M->n≠i->M.dead (T.bI G S s).2.1=true)/\T.ended=false/\
     (((T.bI G S s).2.2.2=T/\(T.bI G S s).2.2.1.busy=G.busy)\/((T.bI G S s).2.2.2=T.close/\(T.bI G S s).2.2.1.busy=false)):=by
 have hd:=Ac k;have a:T.ended=false:=by
  unfold TG.state TG.bT at k;cases a:T.ended
  .rfl
  .rw [hd,a] at k;simp at k
 obtain⟨m,_⟩:=V.jL hd;have b:=h.WE (c:=T.news G S) d l j Ye BO (λq p=>o q (GN p));have SH:∀n M,ls[n]? =some M->n≠i->M.dead (G.bI S s (T.news G S)).2.1=true:=λn M e dM=>by
  cases r:M.dead (G.bI S s (T.news G S)).2.1
  .have g:=(V.jL r).1;rw [(Iv (c:=T.news G S) h d l j Ye BO)] at g;exact absurd (V.p7 h.li d e (g.trans m.symm)) dM
  .rfl
 unfold TG.bI;rw [aB (λh=>h k)];split
 .exact⟨rfl,h.same d, .inl rfl,a, .inr ⟨rfl,rfl⟩⟩
 .split
  .exact⟨Aa _ _ _ _,b, .inr SH,a, .inl ⟨rfl,Iu _ _ _ _⟩⟩
  .exact⟨Aa _ _ _ _,b, .inr SH,a, .inr ⟨rfl,rfl⟩⟩
end
section
variable {w w':World} {F X:Nat->Prop} {p r s cR q l m t n k kl hm:Nat} {S:DS} {G:SG} {T:TG} {pv nv tv:Value} {ps us:List (Nat×List Int)}
def O6 (h:it w F p s cR q l m S G) (b:mD w F q l m t n G T) (k:T.state G S≠0):
  Calls prog 85 #[pQ t] w λe w'=>e= .returned (iV (T.state G S))/\bW w w':=by
 have a:=nO h b;generalize T.state G S=E at*;have d:(E != 0)=true:=by rw [gA];exact k
 clear k h b;go_in;go_wp2_with fail;refine bM a λw1 ar=>?_;have c:=yh ar;clear a ar;go_wp2;go_ret;exact⟨rfl,c.o⟩
def Li (hd:aC w F r s S) (h:iL w F X r s S k kl G pv ps hm nv) (b:nY w X k t G T tv us) (kk:T.state G S≠0):
  Calls prog 86 #[pQ t] w λe w'=>e= .returned (iV (T.state G S))/\bW w w':=by
 have a:=kq hd h b.tx;generalize T.state G S=E at*;have d:(E != 0)=true:=by rw [gA];exact kk
 clear kk h b hd;go_in;go_wp2_with fail;refine bM a λw1 ar=>?_;have c:=yh ar;clear a ar;go_wp2;go_ret;exact⟨rfl,c.o⟩
end
end
section
def aku {t:TypeId} (a:(prog.info? e).map (λi=>(i.zero,i.size,i.bytes))=some (some (.pointer none),1,8)) (f:prog.underlying t=some (.slice e)) (be:W.ownsRow 0 e 1 v k vs) (x:Value) (j:x.oneCell'=true) (m:(k+1)*8<=140737488355328):
  ∃g cap w',(Builtin.append_ #[t,t] t #[v, .slice (some (aD W.heap.size 0)) 1 1]).run prog (W.alloc (.cells #[x] e))= .ok (.slice (some (aD g 0)) (k+1) cap) w'/\w'.ownsRow 0 e 1 (.slice (some (aD g 0)) (k+1) cap) (k+1) (vs ++ [x])/\(W.alloc (.cells #[x] e)).grownBy w' v.ownBlock/\(v.ownBlock=some g\/g=W.heap.size+1)/\g<w'.heap.size:=by
 obtain⟨l,d,gB,dC,eu⟩:=info_parts a;exact run_append_lies (P:=prog) (W.alloc (.cells #[x] e)) t t 0 e l (.pointer none) 1 8 f d gB dC eu rfl (by decide) v k vs (dR be (λg c=>by
   obtain⟨cur,b⟩:=bz be c;exact Below.heap_alloc _ _ _ (aq b))) (aD W.heap.size 0) 1 1 [x] rfl (World.news_of_block (cs:= #[x]) (t:=e) (fr:=(0,0)) (heap_alloc_new W _)) (by simpa using j) (by omega) (by unfold maxLen;omega) (by omega) (by simp) _ (by simp)
section
variable {w w2:World} {q:Nat} {F P F2 X O P' X':Nat->Prop} {p r s c:Nat} {S S2:DS} {v1 v2 v3 v4 u1 u2 u3 u4:Value} {ss Tz:List PI} {ts Xg:List PT} {rs Ba:List RI} {us KF:List RJ}
def oY {b c f:TypeId} {u:Value} {m x:Nat} {o:List Value} {cs:Array Value} {z:Nat×Nat} (g:w.ownsRow 0 b 1 u n xs) (i:w.ownsRow 0 c 1 v m o) (j:w.heap[q]? =some (.cells cs f z)) (k:b≠c) (l:b≠f) (e:u.ownBlock=some x):¬(v.ownBlock=some x\/x=q):=λa=>by
 obtain⟨cur,d⟩:=bz g e;rcases a with a|a
 .obtain⟨ac4,Bq⟩:=bz i a;exact cY d Bq k rfl
 .exact cY d j l a
def W5.grow (h:W5 w q F P F2 X O p r s S S2 c v1 v2 v3 v4 ss ts rs us) {t:TypeId} (j:Nat) (A:(Tryz.prog.info? e).map (λi=>(i.zero,i.size,i.bytes))=some (some (.pointer none),1,8)) (G:Tryz.prog.underlying t=some (.slice e)) (y:w.ownsRow 0 e 1 v k vs) (z:∀g,v.ownBlock=some g->O g) (dM:e≠37) (l:Nat) (f:(k+1)*8<=140737488355328):
  ∃g a w1 w2,(Builtin.append_ #[t,t] t #[v, .slice (some (aD w.heap.size 0)) 1 1]).run Tryz.prog (w.alloc (.cells #[pV l] e))= .ok (.slice (some (aD g 0)) (k+1) a) w1/\w1.heap[q]? =some (.cells (UP p r v1 v2 v3 v4) 37 (0,0))/\w2=w1.setCell ⟨q,j,none⟩ (.slice (some ⟨g,0,none⟩) (k+1) a)/\w2.heap[q]? =some (.cells ((UP p r v1 v2 v3 v4).setIfInBounds j (.slice (some ⟨g,0,none⟩) (k+1) a)) 37 (0,0))/\w2.ownsRow 0 e 1 (.slice (some (aD g 0)) (k+1) a) (k+1) (vs ++ [pV l])/\(∀x,(Value.slice (some (aD g 0)) (k+1) a).ownBlock=some x->more O w w2 x)/\aa (λg=>v.ownBlock=some g\/g=q) w w2/\aa O w w2:=by
 obtain⟨g,a,w1,bD,o,d,is,UW⟩:=aku A G y (pV l) rfl f;have iq:=aJ w (.cells #[pV l] e);have eE:(w.alloc (.cells #[pV l] e)).heap.size=w.heap.size+1:=by simp
 have dC:w.heap.size+1<=w1.heap.size:=by have:=d.size;omega
 have ff:aa (λk=>v.ownBlock=some k) w w1:=by
  refine⟨d.os.trans iq.os,d.tape.trans iq.tape,d.output.trans iq.output,by omega,λk f E=>?_⟩;exact(d.block k (by omega) (λe=>E e.symm)).trans (iq.block k f)
 have m:∀k,v.ownBlock=some k->k≠q:=λk e=>by
  obtain⟨cur,C⟩:=bz y e;exact cY C h.box dM
 have iM:=(ff.block q (h.pi q h.oq) (λe=>m q e rfl)).trans h.box;obtain⟨w2,dE⟩:=bQ (w1.setCell ⟨q,j,none⟩ (.slice (some ⟨g,0,none⟩) (k+1) a));have ew:aa (λk=>k=q) w1 w2:=by rw [dE];exact aL (F:=λk=>k=q) w1 rfl j _
 have aY:aa (λk=>v.ownBlock=some k\/k=q) w w2:=(ff.mono (λ_ h=> .inl h)).trans ew (λj D=> .inl (.inr D));have eu:w2.heap.size=w1.heap.size:=by rw [dE];simp
 have n:g≠q:=by
  rcases is with is|is
  .exact m g is
  .have:=h.pi q h.oq;omega
 refine⟨g,a,w1,w2,bD,iM,dE,by rw [dE];exact heap_setCell_same _ _ j _ _ _ iM,dR o (λx u=>?_),λx u=>?_,aY,aY.mono (λk f=>f.elim (z k) (λe=>e▸h.oq))⟩
 .have b:x=g:=by simpa [Value.ownBlock] using u.symm
  subst b;exact ew.block x UW n
 .have b:x=g:=by simpa [Value.ownBlock] using u.symm
  subst b;exact is.elim (λe=> .inl (z x e)) (λe=> .inr ⟨by omega,by omega⟩)
def W5.mkP (h:W5 w q F P F2 X O p r s S S2 c v1 v2 v3 v4 ss ts rs us) (i:PW w F P' p s S c Tz Xg) (f:∀g,P' g->¬(F2 g\/X g\/O g)) (EU:aa O w w2) (j:w2.heap[q]? =some (.cells (UP p r u1 v2 u3 v4) 37 (0,0))) (l:w2.ownsRow 0 50 1 u1 Tz.length (Tz.map (λI=>pV I.q))) (v:∀g,u1.ownBlock=some g->more O w w2 g) (m:w2.ownsRow 0 106 1 v2 rs.length (rs.map (λI=>pV I.k))) (n:w2.ownsRow 0 53 1 u3 Xg.length (Xg.map (λJ=>pV J.t))) (x:∀g,u3.ownBlock=some g->more O w w2 g) (o:w2.ownsRow 0 121 1 v4 us.length (us.map (λJ=>pV J.u))):W5 w2 q F P' F2 X (more O w w2) p r s S S2 c u1 v2 u3 v4 Tz Xg rs us:=by
 refine⟨j, .inl h.oq,λk a=>a.elim (λa=>i5 (h.pi k a) EU.size) (λh=>h.2),i.aw EU (λk a b=>h.oa k b (.inl a)) (λk a b=>f k a (.inr (.inr b))),h.rw.aw EU (λk a b=>h.od k b (.inl a)) (λk a b=>h.od k b (.inr a)),l,v,m,λg e=> .inl (h.q2 g e),n,x,o,λg e=> .inl (h.q4 g e),λk a b=>?_,λk a b=>?_,λk a b=>?_⟩
 .rcases a with a|a
  .exact h.ad k (.inl a) b
  .exact f k a (b.elim .inl (λb=> .inr (.inl b)))
 .rcases a with a|a <;> rcases b with b|b
  .exact h.oa k a (.inl b)
  .exact f k b (.inr (.inr a))
  .have:=h.pw.d.lt k b;omega
  .have:=i.lt k b;omega
 .rcases a with a|a
  .exact h.od k a b
  .rcases b with b|b
   .have:=h.rw.e.lt k b;omega
   .have:=h.rw.lt k b;omega
def W5.mkD (h:W5 w q F P F2 X O p r s S S2 c v1 v2 v3 v4 ss ts rs us) (i:RW w F2 X' r s S2 Ba KF) (f:∀g,X' g->¬(F g\/P g\/O g)) (EU:aa O w w2) (j:w2.heap[q]? =some (.cells (UP p r v1 u2 v3 u4) 37 (0,0))) (l:w2.ownsRow 0 50 1 v1 ss.length (ss.map (λI=>pV I.q))) (m:w2.ownsRow 0 106 1 u2 Ba.length (Ba.map (λI=>pV I.k))) (v:∀g,u2.ownBlock=some g->more O w w2 g) (n:w2.ownsRow 0 53 1 v3 ts.length (ts.map (λJ=>pV J.t))) (o:w2.ownsRow 0 121 1 u4 KF.length (KF.map (λJ=>pV J.u))) (x:∀g,u4.ownBlock=some g->more O w w2 g):W5 w2 q F P F2 X' (more O w w2) p r s S S2 c v1 u2 v3 u4 ss ts Ba KF:=by
 refine⟨j, .inl h.oq,λk b=>b.elim (λb=>i5 (h.pi k b) EU.size) (λh=>h.2),h.pw.aw EU (λk b a=>h.oa k a (.inl b)) (λk b a=>h.oa k a (.inr b)),i.aw EU (λk b a=>h.od k a (.inl b)) (λk b a=>f k b (.inr (.inr a))),l,λg e=> .inl (h.q1 g e),m,v,n,λg e=> .inl (h.q3 g e),o,x,λk b a=>?_,λk b a=>?_,λk b a=>?_⟩
 .rcases a with a|a
  .exact h.ad k b (.inl a)
  .exact f k a (b.elim .inl (λb=> .inr (.inl b)))
 .rcases b with b|b
  .exact h.oa k b a
  .rcases a with a|a
   .have:=h.pw.d.lt k a;omega
   .have:=h.pw.lt k a;omega
 .rcases b with b|b <;> rcases a with a|a
  .exact h.od k b (.inl a)
  .exact f k a (.inr (.inr b))
  .have:=h.rw.e.lt k a;omega
  .have:=i.lt k a;omega
def W5.afp {E:PI} (h:W5 w q F P F2 X O p r s S S2 c v1 v2 v3 v4 ss ts rs us) (k:PW w F P' p s S c (ss ++ [E]) ts) (b:∀g,P' g->¬(F2 g\/X g\/O g)) (f:(ss.length+1)*8<=140737488355328):
  ∃g a w1,(Builtin.append_ #[32,32] 32 #[v1, .slice (some (aD w.heap.size 0)) 1 1]).run Tryz.prog (w.alloc (.cells #[pV E.q] 50))= .ok (.slice (some (aD g 0)) (ss.length+1) a) w1/\w1.heap[q]? =some (.cells (UP p r v1 v2 v3 v4) 37 (0,0))/\
   W5 (w1.setCell ⟨q,2,none⟩ (.slice (some ⟨g,0,none⟩) (ss.length+1) a)) q F P' F2 X (more O w (w1.setCell ⟨q,2,none⟩ (.slice (some ⟨g,0,none⟩) (ss.length+1) a))) p r s S S2 c (.slice (some (aD g 0)) (ss.length+1) a) v2 v3 v4 (ss ++ [E]) ts rs us/\aa O w (w1.setCell ⟨q,2,none⟩ (.slice (some ⟨g,0,none⟩) (ss.length+1) a)):=by
 obtain⟨g,a,w1,l,bD,iM,dE,d,i,j,aY,EU⟩:=h.grow 2 (by kernel_rfl) Tryz.underlying32 h.o1 h.q1 (by decide) E.q f;refine⟨g,a,w1,bD,iM,?_⟩;rw [<-dE];exact⟨h.mkP k b EU (d.trans (by simp)) (by rw [ed,List.map_append];exact i) j (aF h.o2 (λx e=>aY.block x (h.pi x (h.q2 x e)) (oY h.o2 h.o1 h.box (by decide) (by decide) e))) (aF h.o3 (λx e=>aY.block x (h.pi x (h.q3 x e)) (oY h.o3 h.o1 h.box (by decide) (by decide) e))) (λg e=> .inl (h.q3 g e)) (aF h.o4 (λx e=>aY.block x (h.pi x (h.q4 x e)) (oY h.o4 h.o1 h.box (by decide) (by decide) e))),EU⟩
def W5.afq {E:RI} (h:W5 w q F P F2 X O p r s S S2 c v1 v2 v3 v4 ss ts rs us) (l:RW w F2 X' r s S2 (rs ++ [E]) us) (b:∀g,X' g->¬(F g\/P g\/O g)) (f:(rs.length+1)*8<=140737488355328):
  ∃g a w1,(Builtin.append_ #[33,33] 33 #[v2, .slice (some (aD w.heap.size 0)) 1 1]).run Tryz.prog (w.alloc (.cells #[pV E.k] 106))= .ok (.slice (some (aD g 0)) (rs.length+1) a) w1/\w1.heap[q]? =some (.cells (UP p r v1 v2 v3 v4) 37 (0,0))/\
   W5 (w1.setCell ⟨q,3,none⟩ (.slice (some ⟨g,0,none⟩) (rs.length+1) a)) q F P F2 X' (more O w (w1.setCell ⟨q,3,none⟩ (.slice (some ⟨g,0,none⟩) (rs.length+1) a))) p r s S S2 c v1 (.slice (some (aD g 0)) (rs.length+1) a) v3 v4 ss ts (rs ++ [E]) us/\aa O w (w1.setCell ⟨q,3,none⟩ (.slice (some ⟨g,0,none⟩) (rs.length+1) a)):=by
 obtain⟨g,a,w1,m,bD,iM,dE,d,i,j,aY,EU⟩:=h.grow 3 (by kernel_rfl) Tryz.underlying33 h.o2 h.q2 (by decide) E.k f;refine⟨g,a,w1,bD,iM,?_⟩;rw [<-dE];exact⟨h.mkD l b EU (d.trans (by simp)) (aF h.o1 (λx e=>aY.block x (h.pi x (h.q1 x e)) (oY h.o1 h.o2 h.box (by decide) (by decide) e))) (by rw [ed,List.map_append];exact i) j (aF h.o3 (λx e=>aY.block x (h.pi x (h.q3 x e)) (oY h.o3 h.o2 h.box (by decide) (by decide) e))) (aF h.o4 (λx e=>aY.block x (h.pi x (h.q4 x e)) (oY h.o4 h.o2 h.box (by decide) (by decide) e))) (λg e=> .inl (h.q4 g e)),EU⟩
def W5.afr {E:PT} (h:W5 w q F P F2 X O p r s S S2 c v1 v2 v3 v4 ss ts rs us) (k:PW w F P' p s S c ss (ts ++ [E])) (b:∀g,P' g->¬(F2 g\/X g\/O g)) (f:(ts.length+1)*8<=140737488355328):
  ∃g a w1,(Builtin.append_ #[34,34] 34 #[v3, .slice (some (aD w.heap.size 0)) 1 1]).run Tryz.prog (w.alloc (.cells #[pV E.t] 53))= .ok (.slice (some (aD g 0)) (ts.length+1) a) w1/\w1.heap[q]? =some (.cells (UP p r v1 v2 v3 v4) 37 (0,0))/\
   W5 (w1.setCell ⟨q,4,none⟩ (.slice (some ⟨g,0,none⟩) (ts.length+1) a)) q F P' F2 X (more O w (w1.setCell ⟨q,4,none⟩ (.slice (some ⟨g,0,none⟩) (ts.length+1) a))) p r s S S2 c v1 v2 (.slice (some (aD g 0)) (ts.length+1) a) v4 ss (ts ++ [E]) rs us/\aa O w (w1.setCell ⟨q,4,none⟩ (.slice (some ⟨g,0,none⟩) (ts.length+1) a)):=by
 obtain⟨g,a,w1,l,bD,iM,dE,d,i,j,aY,EU⟩:=h.grow 4 (by kernel_rfl) Tryz.underlying34 h.o3 h.q3 (by decide) E.t f;refine⟨g,a,w1,bD,iM,?_⟩;rw [<-dE];exact⟨h.mkP k b EU (d.trans (by simp)) (aF h.o1 (λx e=>aY.block x (h.pi x (h.q1 x e)) (oY h.o1 h.o3 h.box (by decide) (by decide) e))) (λg e=> .inl (h.q1 g e)) (aF h.o2 (λx e=>aY.block x (h.pi x (h.q2 x e)) (oY h.o2 h.o3 h.box (by decide) (by decide) e))) (by rw [ed,List.map_append];exact i) j (aF h.o4 (λx e=>aY.block x (h.pi x (h.q4 x e)) (oY h.o4 h.o3 h.box (by decide) (by decide) e))),EU⟩
def W5.afs {E:RJ} (h:W5 w q F P F2 X O p r s S S2 c v1 v2 v3 v4 ss ts rs us) (k:RW w F2 X' r s S2 rs (us ++ [E])) (b:∀g,X' g->¬(F g\/P g\/O g)) (f:(us.length+1)*8<=140737488355328):
  ∃g a w1,(Builtin.append_ #[35,35] 35 #[v4, .slice (some (aD w.heap.size 0)) 1 1]).run Tryz.prog (w.alloc (.cells #[pV E.u] 121))= .ok (.slice (some (aD g 0)) (us.length+1) a) w1/\w1.heap[q]? =some (.cells (UP p r v1 v2 v3 v4) 37 (0,0))/\
   W5 (w1.setCell ⟨q,5,none⟩ (.slice (some ⟨g,0,none⟩) (us.length+1) a)) q F P F2 X' (more O w (w1.setCell ⟨q,5,none⟩ (.slice (some ⟨g,0,none⟩) (us.length+1) a))) p r s S S2 c v1 v2 v3 (.slice (some (aD g 0)) (us.length+1) a) ss ts rs (us ++ [E])/\aa O w (w1.setCell ⟨q,5,none⟩ (.slice (some ⟨g,0,none⟩) (us.length+1) a)):=by
 obtain⟨g,a,w1,l,bD,iM,dE,d,i,j,aY,EU⟩:=h.grow 5 (by kernel_rfl) Tryz.underlying35 h.o4 h.q4 (by decide) E.u f;refine⟨g,a,w1,bD,iM,?_⟩;rw [<-dE];exact⟨h.mkD k b EU (d.trans (by simp)) (aF h.o1 (λx e=>aY.block x (h.pi x (h.q1 x e)) (oY h.o1 h.o4 h.box (by decide) (by decide) e))) (aF h.o2 (λx e=>aY.block x (h.pi x (h.q2 x e)) (oY h.o2 h.o4 h.box (by decide) (by decide) e))) (λg e=> .inl (h.q2 g e)) (aF h.o3 (λx e=>aY.block x (h.pi x (h.q3 x e)) (oY h.o3 h.o4 h.box (by decide) (by decide) e))) (by rw [ed,List.map_append];exact i) j,EU⟩
end
def Xh {β:Type} {f:α->β} {l:List α} {a b:α} (c:l[i]? =some a) (h:f b=f a):(l.set i b).map f=l.map f:=by
 rw [List.map_set];apply List.ext_getElem?;intro n;by_cases e:n=i
 .subst e;rw [List.getElem?_set_self (by simpa using ((mL.1 c).1)),Be,c,h];rfl
 .rw [List.getElem?_set_ne (λh=>e h.symm)]
def mZ {l:List α} {a x:α} (b:(l ++ [a])[n]? =some x):(n=l.length/\x=a)\/(n<l.length/\l[n]? =some x):=by
 by_cases e:n<l.length
 .rw [List.getElem?_append_left e] at b;exact .inr ⟨e,b⟩
 .have d:=(mL.1 b).1;have c:n=l.length:=by simp at d;omega
  subst c;rw [List.getElem?_append_right (bS _),Nat.sub_self] at b;exact .inl ⟨rfl,by simpa using b.symm⟩
def TF {l:List α} {a x:α} (h:l[n]? =some x):(l ++ [a])[n]? =some x:=by
 rw [List.getElem?_append_left (mL.1 h).1];exact h
def MN (l:List α) (a:α):(l ++ [a])[l.length]? =some a:=by
 rw [List.getElem?_append_right (bS _),Nat.sub_self];rfl
def Lk.begun {S:DS} {s:Nat} {v:List PI} {z:List PT} {rs:List RI} {us:List RJ} {t u:Nat} {tv:Value} (h:Lk S s N v z rs us) (x:v[i]? =some I) (f:rs[i]? =some R) (U:I.G.busy=false):
  Lk S s N (v.set i {I with G:={I.G with busy:=true}}) (z ++ [⟨i,t,n,⟨[],0,false⟩⟩]) (rs.set i {R with G:={I.G with busy:=true},nv:=pV u}) (us ++ [⟨i,u,tv, [],⟨[],0,false⟩⟩]):=by
 have bV:∀(j:Nat) (J:PT),z[j]? =some J->J.i=i->J.T.ended=true:=λj J k g=>by
  rcases h.now i I R x f with ⟨_,_,o⟩|⟨r,J',K',l,_,o,_,E,F⟩
  .exact o j J k g
  .by_cases e:j=r
   .subst e;rw [k] at l;cases l;rw [E,U];rfl
   .exact F j J k g e
 refine⟨by rw [List.length_set,List.length_set];exact h.sl,λm A C c a=>?_,by rw [ed,ed,h.tl];rfl,λm A C c a=>?_,?_,λm A C c a=>?_,λC a=>?_,λm C K a p g O=>?_,h.rf⟩
 .rcases dr x c with ⟨d,rfl⟩|⟨q,c⟩<;> rcases dr f a with ⟨w,rfl⟩|⟨y,a⟩
  .rfl
  .exact absurd d y
  .exact absurd w q
  .exact h.sg m A C c a
 .have M:=h.tl;rcases mZ c with ⟨d,rfl⟩|⟨q,c⟩<;> rcases mZ a with ⟨w,rfl⟩|⟨y,a⟩
  .exact⟨rfl,rfl⟩
  .omega
  .omega
  .exact h.tg m A C c a
 .have M:(v.set i {I with G:={I.G with busy:=true}}).map (λI:PI=>I.G.L)=v.map (λI:PI=>I.G.L):=Xh x rfl;rw [M];exact h.inv
 .rcases dr x c with ⟨d,rfl⟩|⟨q,c⟩<;> rcases dr f a with ⟨w,rfl⟩|⟨y,a⟩
  .refine .inr ⟨z.length,_,_,MN _ _,by rw [<-h.tl];exact MN _ _,d.symm,rfl,rfl,λr J' b ny dM=>?_⟩;rcases mZ b with ⟨P,_⟩|⟨_,b⟩
   .exact absurd P dM
   .exact bV r J' b (ny.trans d)
  .exact absurd d y
  .exact absurd w q
  .rcases h.now m A C c a with ⟨l,D,o⟩|⟨j,J,K,l,D,o,Q,E,F⟩
   .refine .inl ⟨l,D,λj J k g=>?_⟩;rcases mZ k with ⟨_,rfl⟩|⟨_,k⟩
    .exact absurd g.symm q
    .exact o j J k g
   .refine .inr ⟨j,J,K,TF l,TF D,o,Q,E,λr J' b ny dM=>?_⟩;rcases mZ b with ⟨_,rfl⟩|⟨_,b⟩
    .exact absurd ny.symm q
    .exact F r J' b ny dM
 .obtain⟨m,H⟩:=List.mem_iff_getElem?.1 a;rcases dr f H with ⟨_,rfl⟩|⟨_,H⟩
  .exact h.cs R (gz f)
  .exact h.cs C (gz H)
 .rcases List.mem_append.1 p with p|p
  .rcases dr f a with ⟨d,rfl⟩|⟨_,a⟩
   .exact h.ct i R K f p (g.trans d) O
   .exact h.ct m C K a p g O
  .rw [List.mem_singleton.1 p];show C.ps.length+0<=N;rw [Nat.add_zero];rcases dr f a with ⟨d,rfl⟩|⟨_,a⟩
   .exact h.cs R (gz f)
   .exact h.cs C (gz a)
def W5.nowAt {w:World} {q:Nat} {F P F2 X O:Nat->Prop} {p r s c:Nat} {S d:DS} {v x y z:Value} {g Tz:List PI} {k:List PT} {rs:List RI} {us:List RJ} (h:W5 w q F P F2 X O p r s S d c v x y z Tz k rs us) (e:Lk d s N g k rs us) (n:g[i]? =some I) (o:rs[i]? =some R):XV w R.nv I.G.busy:=by
 rcases e.now i I R n o with ⟨b,a,_⟩|⟨j,J,K,b,a,A,l,m,_⟩
 .exact .inl ⟨b,a⟩
 .obtain⟨M,C,t⟩:=h.rw.tx K (gz a);have f:=t.tx;refine .inr ⟨K.u,l,f.lt,?_⟩;have:=bK f;rw [<-m,<-((e.tg j J K b a).2)];exact this
end
def B.aft (h:B.ax w F p s S c) (a:Int) (f:a<=9223372036854775807):Calls prog 21 #[pQ p,iV a] w λe w'=>e= .returned (.tuple #[])/\B.ax w' F p s (S.lay a) c/\aa F w w':=by
 obtain⟨r,h,g⟩:=h;refine(Xp h a f).mono ?_;rintro e w' ⟨rfl,b,d⟩;exact⟨rfl,⟨r,by rw [<-Vv];exact b,g⟩,d⟩
def abb {G:Nat->Prop} {r q:Nat} {v1 v2 v3 v4:Value} (h:B.ax w F p s S c) (he:aC w G r s S) (C:∀k,F k->¬G k) (M:w.heap[q]? =some (.cells (UP p r v1 v2 v3 v4) 37 (0,0))) (D:¬F q) (aU:S.puts.length+1<=4000000000000) (ET:S.refused=0) (hc:c<4611686018427387904):
  Calls prog 26 #[pV q] w λe w'=>e= .returned (.bool true)/\B.ax w' F p s S (c+s)/\aa F w w':=by
 obtain⟨iK,W⟩:=bU h.lt ET;clear ET;obtain⟨O,K,y,Ml,afu,Px,h1⟩:=nw (yh h) (yh he) (yh M) h.ok.hi (aq M) (yh h.ok) (B.JS h);have X:w.cell? (aD q 0)=some (pV p):=aM M;obtain⟨L,BS⟩:∃L,L=(S.fuse == 0):=⟨_,rfl⟩;have akw:Yh (∀w',B.ax w' F p s S c->Calls prog 34 #[pQ p] w' λe Bi=>e= .returned (.bool L)/\Bi=w'):=λw' h=>by rw [BS];exact B.zf h
 have akx:Yh (∀w',aC w' G r s S->Calls prog 50 #[pQ r] w' λe Bi=>e= .returned (.bool L)/\Bi=w'):=λw' h=>by rw [BS];exact kn h
 clear h he M BS;go_in;go_wp2_with fail;refine h1.mono ?_;rintro e w1 ⟨g1,cc1,rfl,po,mj,ar⟩;have abc:=(ar.block q afu).trans y.o;have PJ:w1.cell? (aD q 0)=some (pV p):=aM abc;have Iw:w1.cell? (aD q 1)=some (pV r):=bG abc;have eh:=mj.src;rw [Px.o.len] at eh;obtain⟨oV,cQ,abd,dC⟩:=cO (yh eh) (yh ar) (yh (ai ar)) ar.size;clear h1 mj eh ar abc X;go_wp2_with fail;go_region_held3 (λw'=>w'.cell? (aD q 0)=some (pV p)/\w'.cell? (aD q 1)=some (pV r))
  (first|exact⟨PJ,Iw⟩|exact⟨g,m⟩|exact⟨l,n⟩)
  (first
   |(go_at_call 65;refine(Ki (K.o.later abd.o)).mono ?_;rintro e w2 ⟨g2,rG,rfl,fZ,fy,bd⟩;have bo:=fy.src;rw [Px.o.len] at bo;have g:=cell_later bd PJ;have m:=cell_later bd Iw)
   |(go_at_call 16;refine(pr (some (aD g1 0)) (some (aD g2 0)) (s*512) cc1 rG S.im w2 (by omega) (oV.o.later ((ai (bi w1.heap.size w1)).trans bd)) bo).mono ?_;rintro e w3 ⟨rfl,bF⟩;have l:=cell_later bF g;have n:=cell_later bF m;have gd:=yh (abd.o.trans ((bd.mono dC).trans (bF.mono (j3 dC bd.size)))))
   |(go_at_call 34;refine(akw.o _ (O.o.later gd.o)).mono ?_;rintro e x ⟨rfl,pk⟩;have EJ:=pk.symm;clear pk;subst EJ)
   |(go_at_call 50;refine(akx.o _ (K.o.later gd.o)).mono ?_;rintro e w5 ⟨rfl,I5⟩;have Lj:=I5.symm;clear I5;subst Lj))
 have N:=yh l;have z:=yh n;have ly:=gd.o.size;clear bo fy bd bF PJ Iw g m n;go_wp2_with fail;refine(B.qZ (O.o.later gd.o) (by omega) hc).mono ?_;rintro e x ⟨rr,rfl,_,_,fw⟩;have wk:=fw.size;have jU:Yh (bW w x):=gd.o.trans (fw.mono ly);have fa:=aJ x (.cells (ee (rr:Int) S.writes S.flushes S.refused S.puts.length) 96);have Jz:=jU.o.trans (fa.mono (by omega));have Z:=cell_later fa (cell_later fw z.o);have Uo:(x.alloc (.cells (ee (rr:Int) S.writes S.flushes S.refused S.puts.length) 96)).heap[x.heap.size]? =some (.cells (ee (rr:Int) S.writes S.flushes S.refused S.puts.length) 96 (0,0)):=heap_alloc_new _ _;obtain⟨aY,pL,jq,Yl⟩:=cO (Kb (K.o.later Jz)) fa.size (yh Jz) (yh Uo);clear fw l fa Jz Uo;go_wp2_with fail;refine bM aY λJ nE=>?_;have Ru:=nE.size;have xx:=aJ J (.cells (ee S.reads S.writes S.flushes S.refused S.puts.length) 96);have UH:=(xx.block x.heap.size (i5 (aq Yl.o) Ru)).trans ((nE.block x.heap.size (aq Yl.o)).trans Yl.o);have a:(J.alloc (.cells (ee S.reads S.writes S.flushes S.refused S.puts.length) 96)).heap[J.heap.size]? =some (.cells (ee S.reads S.writes S.flushes S.refused S.puts.length) 96 (0,0)):=heap_alloc_new _ _;obtain⟨a1,a2,a3,a4,b1,b2,b3,b4,O7⟩:=MQ (bG UH) (bK UH) ((fQ UH).trans (congrArg (λt=>some (Value.int .i64 t)) W.o)) (gG UH) (bG a) (bK a) (fQ a) (gG a) (j3 ly wk);have Fp:Yh (bW w (J.alloc (.cells (ee S.reads S.writes S.flushes S.refused S.puts.length) 96))):=jq.o.trans ((nE.mono (j3 O7 pL)).trans (xx.mono (j3 O7 (j3 pL Ru))));clear aY nE xx UH a Z jU gd cQ abd oV N z;go_wp2;generalize J.alloc (.cells (ee S.reads S.writes S.flushes S.refused S.puts.length) 96)=w7 at*;clear a1 a2 a3 a4 b1 b2 b3 b4;have hz7:=Fp.o.size;go_loopw [6] (λi wr=>∃j:Nat,j<=s/\i=iV (j:Int)/\B.ax wr F p s S (c+j)/\aa F w7 wr) (λi _=>s-(intOf i).toNat);case atStart=>exact⟨0,dV _,rfl,(yh (O.o.later Fp.o)).out,aa.refl _ _⟩
 case round=>
  obtain⟨j,hj,rfl,hd,H⟩:=hrel;obtain⟨sP,CV⟩:=bU hd H;have f:=(H.block q (by omega) D).trans (yh ((Fp.o.block q afu).trans y.o)).out;have X:wr.cell? (aD q 0)=some (pV p):=aM f;have c1:wr.cell? (aD q 1)=some (pV r):=bG f;have b:=(yh (K.o.later Fp.o)).out.aw H (λk hg u=>C k u hg);obtain⟨eh,bo,Ae,Q,U⟩:=eK (mA b) (kn b) H.size (yh b) (yh f);clear hd H f b;by_cases bq:j<s
  .have cC:(j:Int)<(s:Int):=(by omega);go_wp2_with fail;refine bM eh λw8 Yx=>?_;have TH:=Yx.symm;clear Yx;subst TH;go_wp2_with fail;refine bM bo λw8 Yx=>?_;have TH:=Yx.symm;clear Yx eh bo;subst TH;by_cases u:S.fuse=0
   .have d:(S.fuse == 0)=true:=(by rw [u];rfl);have R:Yh (B.ax wr F p s S (c+s)/\aa F w wr):=⟨sP.o.le (by omega),(aa.ah F Fp.o).trans CV.o (λ_ h=> .inl h)⟩;go_wp2;go_ret;exact⟨rfl,R.o⟩
   .have d:(S.fuse == 0)=false:=(by rw [fJ];exact u);go_wp2_with fail;refine(B.zJ sP.o j bq aU u).mono ?_;rintro e w9 ⟨v9,rfl,ho9,E,A6⟩;obtain⟨a9,c9,rfl,v,_⟩:=ho9;have Yy:=bu Px.o j bq;rw [Yy] at v⊢;have Iw:w9.cell? (aD q 1)=some (pV r):=bG ((A6.block q (by omega) D).trans U.o);have Y8:=jM (Q.o.aw A6 (λk hg u=>C k u hg)) j bq (by omega);have P:=yh E;have T:Yh (aa F w7 w9):=CV.o.trans A6 (λ_ h=> .inl h);have hz9:=A6.size;clear E A6 X c1;go_wp2_with fail;refine Y8.mono ?_;rintro e Th ⟨g10,Y,rfl,_,Dy,afw⟩;have afx:=afw.symm;clear afw;subst afx;have abe:=Dy.src;rw [Yy] at abe;have A:=pr a9 (some (aD g10 0)) 512 c9 Y (S.now j) w9 (by omega) v abe;clear Y8 Dy v abe;go_wp2_with fail;refine bM A λI abf=>?_;have HZ:Yh (B.ax I F p s S (c+(j+1))/\aa F w7 I):=⟨P.o.later abf,T.o.trans (aa.ah F abf) (λ_ h=> .inl h)⟩;clear A abf;go_wp2;go_roundw;case rel=>exact⟨j+1,by omega,by go_num,HZ.o⟩
    case measure=>simp [intOf];omega
  .obtain rfl:j=s:=(by omega);have wj:¬(j:Int)<(j:Int):=(by omega);have R:Yh (B.ax wr F p j S (c+j)/\aa F w wr):=⟨sP.o,(aa.ah F Fp.o).trans CV.o (λ_ h=> .inl h)⟩;go_wp2_with fail;refine bM eh λw8 Yx=>?_;have TH:=Yx.symm;clear Yx;subst TH;go_wp2;go_ret;exact⟨rfl,R.o⟩
section
def Ll {S:DS} (h:G.begin S=0):G.busy=false:=by
 unfold SG.begin at h;split at h
 .exact absurd h (by decide)
 .split at h
  .exact absurd h (by decide)
  .rename_i q;simpa using q
def W5.under {w:World} {q:Nat} {F P F2 X O:Nat->Prop} {p r s c:Nat} {S b:DS} {j k l m:Value} {f:List PI} {i:List PT} {rs:List RI} {us:List RJ} (h:W5 w q F P F2 X O p r s S b c j k l m f i rs us) (g:Nat) (a:F g\/P g\/F2 g\/X g\/O g):g<w.heap.size:=by
 rcases a with a|a|a|a|a
 .exact h.pw.d.lt g a
 .exact h.pw.lt g a
 .exact h.rw.e.lt g a
 .exact h.rw.lt g a
 .exact h.pi g a
section
variable {w w':World} {q:Nat} {F P F2 X O A:Nat->Prop} {p r s c N:Nat} {S:DS} {v1 v2 v3 v4:Value} {ss:List PI} {ts:List PT} {rs:List RI} {us:List RJ}
end
end
section
section
variable {w w':World} {F:Nat->Prop} {p r s c:Nat} {S S':DS} {L:LG} {x:Int}
def O8 (w:World) (F:Nat->Prop) (p s c:Nat) (S:DS) (e:Ending) (w':World):Prop:=∃x S' cR,cR<=c+261/\j0 S s x S'/\aa F w w'/\((x≠0/\e= .returned (.tuple #[.pointer none,iV x])/\B.ax w' (more F w w') p s S' cR)\/(x=0/\∃q l m L F',sY S s L/\e= .returned (.tuple #[pQ q,iV 0])/\(∀k,F' k->more F w w' k)/\w.heap.size<=q/\w.heap.size<=l/\w.heap.size<=m/\it w' F' p s cR q l m S' ⟨cE (S.now 0),L, [],false⟩))
def AJ (h:B.ax w F p s S c) (dD:S.fL) (aU:S.puts.length+6000<=4000000000000):
  Calls prog 13 #[pQ p] w λe w'=>O8 w F p s c S e w':=by
 by_cases i9:S.fuse=0\/¬mI (S.now 0) s
 .have rC:∀x,j0 S s x S->x≠0:=λx j e=>by
   rcases j with ⟨_,n,_⟩|⟨a,b,_⟩
   .exact n e
   .exact i9.elim b (λh=>h a)
  refine(OP h dD (by omega) i9).mono ?_;rintro e w' ⟨x,rfl,d,f,i⟩;exact⟨x,S,c+1,by omega,d,i, .inl ⟨rC x d,rfl,f.more⟩⟩
 .have qG:=Classical.byContradiction (λe=>i9 (.inr e));refine(O3 h dD aU (λe=>i9 (.inl e)) qG).mono ?_;rintro e w' ⟨x,S',g,d,f⟩;exact⟨x,S',g,by have:=kw qG;omega,f⟩
def Lm (h:aC w F r s S) (dD:S.fL) (aU:S.puts.length+6000<=4000000000000):
  Calls prog 59 #[pQ r] w λe w'=>eI w F r s S e w':=by
 by_cases a:S.fuse=0
 .exact If h a
 .exact Ig h a dD aU
def nT {home:Nat}:∀{ms:CM} {S:DS},(aE S s home ms).2.life=S.life
 | [],_=>rfl
 |q :: qs,S=>by
  have a:=kB S s ((home+q.1:Nat):Int) 512 q.2;unfold aE;split
  .exact a
  .exact nT.trans a
def TI (S:DS) (s:Nat) (f n:Int):(bA S s f n).2=S\/(bA S s f n).2.life=wrap64 (S.life+1):=by
 unfold bA;split
 .exact .inl rfl
 .split
  .exact .inr rfl
  .split
   .exact .inr rfl
   .exact .inr (fX _ _)
def Ix {y:LY} {ov:CM} {rs:List (List Int)}:(em S s y ov rs).2.life=S.life:=by
 unfold em;split
 .rfl
 .split
  .exact nT
  .exact(fX _ _).trans nT
def TJ:(L.start S s).2.1.life=S.life:=by
 unfold LG.start;split
 .rfl
 .split
  .rfl
  .split <;> exact iU _ _ _ _
def j0.life (h:j0 S s x S'):(S'=S/\x≠0)\/S'.life=wrap64 (S.life+1):=by
 rcases h with ⟨_,n,rfl⟩|⟨qG,d,k⟩
 .exact .inl ⟨rfl,n⟩
 .rcases k with ⟨_,n,rfl⟩|⟨c,rs,hd,Fq,k⟩
  .exact(TI S s 1 (((cE (S.now 0)).log:Nat):Int)).imp (λh=>⟨h,n⟩) id
  .refine .inr ?_;have a:(bA S s 1 (((cE (S.now 0)).log:Nat):Int)).2.life=wrap64 (S.life+1):=by
    obtain⟨_,_,_,e⟩:=l7 (f:=1) c;have b:bA S s 1 (((cE (S.now 0)).log:Nat):Int)=S.take.fl s:=e;rw [b];exact fX _ _
   rcases k with ⟨_,_,rfl⟩|⟨ov,uR,k⟩
   .exact a
   .rcases k with ⟨_,_,rfl⟩|⟨_,_,rfl⟩
    .exact Ix.trans a
    .exact TJ.trans (Ix.trans a)
def AK {g:Nat->DS->Int×DS} (a:∀j T,(g j T).2.life=T.life):∀k,(cB S g k).2.life=S.life
 |0=>rfl
 |k+1=>by
  have:=AK a k;unfold cB;split
  .exact this
  .exact(a k _).trans this
def Ln (S:DS) (s:Nat) (f n:Int):(cD S s f n).2.life=S.life\/(cD S s f n).2.life=wrap64 (S.life+1):=by
 unfold cD;split
 .exact .inl rfl
 .refine .inr ?_;have a:(bE S.take s f.toNat (n.toNat+2)).2.life=wrap64 (S.life+1):=AK (λ_ _=>kB _ _ _ _ _) _;have b:(cN S.take s f.toNat n.toNat).2.life=wrap64 (S.life+1):=by
   unfold cN;split
   .exact a
   .exact(fX _ _).trans a
  split
  .exact b
  .exact(iU _ _ _ _).trans b
def uH (S:DS) (s a n:Nat):(eB S s a n).2.life=S.life:=by
 unfold eB;split
 .exact nT
 .exact(fX _ _).trans nT
def Lo (S:DS) (s:Nat) (a b c:Int):(bY S s a b c).2=S\/(bY S s a b c).2.life=wrap64 (S.life+1)\/(bY S s a b c).2.life=wrap64 (wrap64 (S.life+1)+1):=by
 unfold bY;split
 .exact .inl rfl
 .split
  .refine .inr ?_;have e:(ma S s).2.life=wrap64 (S.life+1):=uH S.take s 0 1;have f:(nc S s).2.life=wrap64 (S.life+1):=(uH (ma S s).2 s 1 (s-1)).trans e;have d:(jS S s b.toNat).2.life=wrap64 (S.life+1)\/(jS S s b.toNat).2.life=wrap64 (wrap64 (S.life+1)+1):=by
    have:=Ln (nc S s).2 s 1 (b.toNat:Int);rw [f] at this;exact this
   have g:(mb S s b.toNat c.toNat).2.life=(jS S s b.toNat).2.life:=kB _ _ _ _ _;unfold lI;split
   .exact .inl e
   .split
    .exact .inl f
    .split
     .exact d
     .split
      .rw [g];exact d
      .rw [fX,g];exact d
  .exact .inl rfl
def AL (h:L.life<S.life):L.dead S=true:=by
 unfold LG.dead;have:(S.life != L.life)=true:=by rw [gA];omega
 rw [this,Bool.or_true]
def TK (S S':DS) (rs:List RI):Prop:=∀R∈rs,R.G.L.dead S'=false->R.G.L.dead S=false/\∀b,b<R.G.y.blocks->S'.now (R.G.y.home+b)=S.now (R.G.y.home+b)
def Lk.Yz (h:Lk S s N ss ts rs us):∀R∈rs,R.G.L.life<=S.life:=λR c=>by
 obtain⟨i,b⟩:=List.mem_iff_getElem?.1 c;obtain⟨I,a⟩:∃I,ss[i]? =some I:=⟨ss[i]'(by rw [<-h.sl];exact(mL.1 b).1),List.getElem?_eq_getElem _⟩;rw [h.sg i I R a b];exact(h.inv.ol I.G.L (List.mem_map.2 ⟨I,gz a,rfl⟩)).2
def Lk.sS (h:Lk S s N ss ts rs us) (a:S'=S\/S.life<S'.life):TK S S' rs:=λR b hd=>by
 rcases a with rfl|a
 .exact⟨hd,λ_ _=>rfl⟩
 .rw [AL (by have:=h.Yz R b;omega)] at hd;cases hd
def vQ (h0:0<=S.life) (a:S.life<=N) (b:N<=3999999990000):wrap64 (S.life+1)=S.life+1/\wrap64 (wrap64 (S.life+1)+1)=S.life+2:=by
 have e:wrap64 (S.life+1)=S.life+1:=by unfold wrap64;omega
 refine⟨e,?_⟩;rw [e];unfold wrap64;omega
def Lk.opened (h:Lk S s N ss ts rs us) (f:N<=M) (c:V.Inv S' s (ss.map (λI=>I.G.L) ++ [I.G.L]) M) (l:R.G=I.G) (n:R.nv= .pointer none) (o:I.G.busy=false) (p:R.ps= []) (t:∀J∈ts,J.i<ss.length) (u:∀K∈us,K.i<rs.length) (ET:S'.refused=S.refused):Lk S' s M (ss ++ [I]) ts (rs ++ [R]) us:=by
 have x:=h.sl;refine⟨by rw [ed,ed,h.sl];rfl,λm A C b a=>?_,h.tl,h.tg,by rw [List.map_append];exact c,λm A C b a=>?_,λC a=>?_,λm C K a e g v=>?_,ET.trans h.rf⟩
 .rcases mZ b with ⟨d,rfl⟩|⟨k,b⟩<;> rcases mZ a with ⟨q,rfl⟩|⟨w,a⟩
  .exact l
  .omega
  .omega
  .exact h.sg m A C b a
 .rcases mZ b with ⟨d,rfl⟩|⟨k,b⟩<;> rcases mZ a with ⟨q,rfl⟩|⟨w,a⟩
  .refine .inl ⟨n,o,λj J r g=>?_⟩;have:=t J (gz r);omega
  .omega
  .omega
  .exact h.now m A C b a
 .rcases List.mem_append.1 a with a|a
  .exact j3 (h.cs C a) f
  .rw [List.mem_singleton.1 a,p];exact dV _
 .rcases mZ a with ⟨d,rfl⟩|⟨k,a⟩
  .have:=u K e;omega
  .exact j3 (h.ct m C K a e g v) f
def PW.ti {P:Nat->Prop} (h:PW w F P p s S c ss ts):∀J∈ts,J.i<ss.length:=λJ b=>by
 obtain⟨I,a,_⟩:=h.tx J b;exact(mL.1 a).1
def RW.ui {X:Nat->Prop} (h:RW w F X r s S rs us):∀K∈us,K.i<rs.length:=λK b=>by
 obtain⟨I,a,_⟩:=h.tx K b;exact(mL.1 a).1
end
end
section
section
variable {w w':World} {q:Nat} {F P F2 X O A:Nat->Prop} {p r s c N:Nat} {S:DS} {v1 v2 v3 v4:Value} {ss:List PI} {ts:List PT} {rs:List RI} {us:List RJ}
def abg (h:W5 w q F P F2 X O p r s S S c v1 v2 v3 v4 ss ts rs us) (n:Lk S s N ss ts rs us) (f:∀g,(F g\/P g\/F2 g\/X g\/O g)->A g) (h1:ss.length<=N) (h2:ts.length<=N) (hc:c<=5000*N) (hN:N<=3999999990000):
  Calls prog 20 #[pV q] w λe w'=>e= .returned (.bool true)/\ec w w' q A p r s N:=by
 obtain⟨Mj,l1,l2,c0,c1⟩:=eK n.inv.p6 (B.wm h.pw.d) (nK h.rw.e) h.c0 h.c1;have ho:=AJ h.pw.d n.inv.pZ (by omega);have u:=(λ(j:World) (hd:aC j F2 r s S)=>Lm hd n.inv.pZ (by omega));obtain⟨wl1,wl2⟩:=vQ n.inv.l0 n.inv.lt hN;obtain⟨l,o,Fk⟩:=kE h n h.under;clear h n;go_in;go_wp2_with fail;refine bM l1 λw1 bO=>?_;have jO:=bO.symm;clear bO l1;subst jO;go_wp2_with fail;refine bM l2 λw1 bO=>?_;have jO:=bO.symm;clear bO l2;subst jO;go_wp2_with fail;refine ho.mono ?_;rintro e j ⟨x,S',cR,hcR,mc,aY,Iy⟩;have hS:S'=S\/S.life<S'.life:=mc.life.imp (λh=>h.1) (λh=>by omega);have H:x=0->S.life<S'.life:=λe=>mc.life.elim (λh=>absurd e h.2) (λh=>by omega);obtain⟨eu,ET,z,C⟩:=cO aY.size mc.rf mc ((o.sS hS));have t:=(o.inv.fA (by omega) mc);have oZ:aa (λg=>F g\/P g) w j:=aY.mono (λg h=> .inl h);clear ho mc hS;rcases Iy with ⟨b,rfl,cI⟩|⟨b,q0,l0,m0,L,F',mR,rfl,YA,Xz,vX,Z9,ln⟩
 .have nU:=l.pw.lK (λg h=>h) cI aY;have io:=l.prog nU oZ (λg h=>h) rfl rfl;obtain⟨J,Iw,fd,ig⟩:=cO (u j io.rw.e) io.c1 io oZ;clear nU io cI aY oZ c0 c1;go_wp2_with fail;refine J.mono ?_;rintro e i ⟨y,S2,Ih,aZ,Lp⟩;obtain⟨e1,e2⟩:=z.same Ih;subst e1;subst e2;clear Ih J;rcases Lp with ⟨_,rfl,yq⟩|⟨rC,_⟩
  .have nV:=fd.rw.lK (λg h=>h) yq aZ C;have mT:aa (λg=>F2 g\/X g) j i:=aZ.mono (λg h=> .inl h);have iG:=fd.doc nV mT (λg h=>h) (λg h=> .inl h) rfl rfl;have kt:=ai (bi i.heap.size i);have uI:=iG.later kt;obtain⟨U,W,D,E⟩:=cO (B.wm uI.pw.d) (nK uI.rw.e) iG.c0 iG.c1;have uJ:=(((ig).mono (λg a=>f g (by rcases a with a|a;exact .inl a;exact .inr (.inl a)))).trans mT (λg a=> .inl (f g (by rcases a with a|a;exact .inr (.inr (.inl a));exact .inr (.inr (.inr (.inl a))))))).trans (aa.ah (λ_=>False) kt) (λ_ h=>h.elim);have Y:(ec w i.drew q A p r s N):=⟨λg=>A g\/w.heap.size<=g,⟨_,_,_,_,_,_,cR,_,_,_,_,_,_,_,_,uI,o.TE (M:=N+2) (by omega) ((t.1 b).more (by omega)) ET,λg a=>(by
    rcases a with (a|a)|a|(a|a)|a|a
    .exact .inl (f g (.inl a))
    .exact .inr a.1
    .exact .inl (f g (.inr (.inl a)))
    .exact .inl (f g (.inr (.inr (.inl a))))
    .exact .inr (by omega)
    .exact .inl (f g (.inr (.inr (.inr (.inl a)))))
    .exact .inl (f g (.inr (.inr (.inr (.inr a)))))),by omega,by omega,by omega⟩,uJ,λ_ h=>h⟩
   clear nV mT iG uI kt uJ yq aZ Iw;go_wp2_with fail;go_region_held3 (λw'=>w'.cell? (aD q 0)=some (pV p)/\w'.cell? (aD q 1)=some (pV r))
    (exact⟨D,E⟩)
    (first
     |(go_at_call 17;refine U.mono ?_;rintro e w4 ⟨rfl,pk⟩;have EJ:=pk.symm;clear pk;subst EJ)
     |(go_at_call 18;refine W.mono ?_;rintro e w5 ⟨rfl,I5⟩;have Lj:=I5.symm;clear I5;subst Lj))
   clear U W D E;go_wp2;go_ret;exact⟨by simp,Y⟩
  .exact absurd rC b
 .subst b;have H:=H rfl;have io:=l.prog (l.pw.lK YA ln.d aY) oZ YA rfl rfl;obtain⟨J,Iw,nq,nl,nm,fd,ig,HPN,v⟩:=MQ (u j io.rw.e) io.c1 ln.st.lt ln.lp.lt ln.ch.lt io oZ (l.pw.push YA ln Xz vX Z9 aY) mR;clear io ln aY oZ c0 c1 mR;go_wp2_with fail;refine J.mono ?_;rintro e i ⟨y,S2,Ih,aZ,Lp⟩;obtain⟨e1,e2⟩:=z.same Ih;subst e1;subst e2;clear Ih J;rcases Lp with ⟨rC,_⟩|⟨_,k0,T,L2,F3,X2,afy,rfl,R5,Mw,yq,vJ⟩
  .exact absurd rfl rC
  .obtain rfl:=v.same afy;have Q:=fd.rw.push (I:=⟨k0,T, .slice none 0 0, [],0, .pointer none,⟨cE (S.now 0),L, [],false⟩⟩) R5 Mw yq vJ rfl aZ (λK hK=>AL (by have:=o.Yz K hK;omega));have mT:aa (λg=>F2 g\/X g) j i:=aZ.mono (λg h=> .inl h);have iG:=fd.doc (fd.rw.lK R5 yq aZ C) mT R5 (λg h=> .inl h) rfl rfl;have z2:j.heap.size<=i.drew.heap.size:=aZ.size;have lQ:∀g,w.heap.size<=g->¬(F2 g\/X g\/O g):=λg a b=>by have:=Fk g (by rcases b with b|b|b;exact .inr (.inr (.inl b));exact .inr (.inr (.inr (.inl b)));exact .inr (.inr (.inr (.inr b))));omega
   have k:∀g,w.heap.size<=g->¬P g:=λg a b=>by have:=Fk g (.inr (.inl b));omega
   have afz:=HPN.aw aZ (λg a b=>fd.ad g (.inl a) (.inl b)) (λg a b=>by
    rcases a with a|a
    .exact fd.ad g (.inr a) (.inl b)
    .exact lQ g (by omega) (.inl b))
   have kt:=ai (bi i.heap.size i);have G:∀g,X2 g->g<i.drew.heap.size:=vJ.lt;have B2:=(((ig).mono (λg a=>f g (by rcases a with a|a;exact .inl a;exact .inr (.inl a)))).trans mT (λg a=> .inl (f g (by rcases a with a|a;exact .inr (.inr (.inl a));exact .inr (.inr (.inr (.inl a))))))).trans (aa.ah (λ_=>False) kt) (λ_ h=>h.elim);have uI:=iG.later kt;obtain⟨U,W,D,E,Lq,HPd,VY,Z⟩:=xm (B.wm uI.pw.d) (nK uI.rw.e) iG.c0 iG.c1 uI ((afz.later kt)) ((Q.later kt)) B2;clear Q mT iG uI afz yq aZ vJ Iw afy kt B2;go_wp2_with fail;go_region_held3 (λw'=>w'.cell? (aD q 0)=some (pV p)/\w'.cell? (aD q 1)=some (pV r))
    (exact⟨D,E⟩)
    (first
     |(go_at_call 17;refine U.mono ?_;rintro e w4 ⟨rfl,pk⟩;have EJ:=pk.symm;clear pk;subst EJ)
     |(go_at_call 18;refine W.mono ?_;rintro e w5 ⟨rfl,I5⟩;have Lj:=I5.symm;clear I5;subst Lj))
   clear U W D E;generalize i.drew=Vd at*;obtain⟨g4',D2,V4,wq,Oj,xC,dW⟩:=Lq.afp HPd (λg a b=>by
    rcases a with a|a
    .rcases b with b|b|b
     .exact Lq.ad g (.inr a) (.inl b)
     .exact Lq.ad g (.inr a) (.inr b)
     .exact Lq.oa g b (.inr a)
    .rcases b with b|b
     .rcases R5 g b with b|b
      .exact lQ g (by omega) (.inl b)
      .omega
     .exact lQ g (by omega) (.inr b)) (by omega)
   have Bq:=Lq.c2;have q4:=bK Oj;have f4:=ae Oj 2;obtain⟨V5,m⟩:=bQ (V4.setCell ⟨q,2,none⟩ (.slice (some ⟨g4',0,none⟩) (ss.length+1) D2));have O7:V5.heap.size=V4.heap.size:=(by rw [m];simp);rw [<-m] at xC dW;have afA:=VY.aw dW (λg a b=>Lq.od g b (.inl a)) (λg a b=>by
    rcases a with a|a
    .exact Lq.od g b (.inr a)
    .have:=Mw g a;exact lQ g (by omega) (.inr (.inr b)))
   obtain⟨g5',NF,V6,nI,nN,Fi,jD⟩:=xC.afq afA (λg a b=>by
    rcases a with a|a
    .rcases b with b|b|b
     .exact xC.ad g (.inl b) (.inr a)
     .exact xC.ad g (.inr b) (.inr a)
     .exact xC.od g b (.inr a)
    .have a1:=Mw g a;have a2:=G g a;rcases b with b|(b|b)|(b|b)
     .have:=fd.under g (.inl b);omega
     .exact k g (by omega) b
     .omega
     .exact lQ g (by omega) (.inr (.inr b))
     .omega) (by have:=o.sl;omega)
   obtain⟨MZ,q5,f5,z4⟩:=cO xC.c3 (fQ nN) (ae nN 3) dW.size;have uJ:=(Z.trans dW (λg a=> .inl (f g (.inr (.inr (.inr (.inr a))))))).trans jD (λg a=>by
    rcases a with a|a
    .exact .inl (f g (.inr (.inr (.inr (.inr a)))))
    .exact .inr (by omega))
   have Y:(ec w (V6.setCell ⟨q,3,none⟩ (.slice (some ⟨g5',0,none⟩) (rs.length+1) NF)) q A p r s N):=⟨λg=>A g\/w.heap.size<=g,⟨_,_,_,_,_,_,cR,_,_,_,_,_,_,_,_,Fi,o.opened (I:=⟨q0,l0,m0,⟨cE (S.now 0),L, [],false⟩⟩) (R:=⟨k0,T, .slice none 0 0, [],0, .pointer none,⟨cE (S.now 0),L, [],false⟩⟩) (M:=N+2) (by omega) ((t.2 (by trivial) L v).more (by omega)) rfl rfl rfl rfl l.pw.ti l.rw.ui ET,λg a=>(by
    rcases a with a|(a|a)|a|(a|a)|((a|a)|a)
    .rcases YA g a with a|a
     .exact .inl (f g (.inl a))
     .exact .inr a.1
    .exact .inl (f g (.inr (.inl a)))
    .exact .inr (by omega)
    .rcases R5 g a with a|a
     .exact .inl (f g (.inr (.inr (.inl a))))
     .exact .inr (by omega)
    .exact .inl (f g (.inr (.inr (.inr (.inl a)))))
    .exact .inr (by have:=Mw g a;omega)
    .exact .inl (f g (.inr (.inr (.inr (.inr a)))))
    .exact .inr (by omega)
    .exact .inr (by omega)),by rw [ed];show ss.length+1<=_;omega,by omega,by omega⟩,uJ,λ_ h=>h⟩
   rw [O7] at nI;rw [m] at nI MZ;have GZ:=wq;have G0:=nI;clear lQ k wq Oj xC dW afA nI nN Fi jD uJ G R5 Mw YA;go_wp2_with (at_builtin;first|refine br rfl _ _ 32 rfl v1 (.slice (some (aD Vd.heap.size 0)) 1 1) _ rfl rfl GZ ?_|refine br rfl _ _ 33 rfl v2 (.slice (some (aD V4.heap.size 0)) 1 1) _ rfl rfl G0 ?_);go_wp2;go_ret;exact⟨rfl,Y⟩
end
end
section
def Lr {B:Int} (h:Bytes d):Bytes (lr B d):=by
 unfold lr;split
 .exact LK B
 .exact h
def TL {B:Int}:(lr B d).length=512\/(lr B d).length=d.length:=by
 unfold lr;split
 .exact .inl (uO B)
 .exact .inr rfl
section
variable {w:World} {g:Nat} {c0 c1 c2 c3 c4 c5 c6 c7 c8:Value} {e:TypeId}
def iZ (h:w.heap[g]? =some (.cells #[c0,c1,c2,c3,c4,c5,c6,c7,c8] e (0,0))):w.cell? (aD g 0)=some c0/\w.cell? (aD g 1)=some c1/\w.cell? (aD g 2)=some c2/\w.cell? (aD g 3)=some c3/\w.cell? (aD g 4)=some c4/\w.cell? (aD g 5)=some c5/\w.cell? (aD g 6)=some c6/\w.cell? (aD g 7)=some c7/\w.cell? (aD g 8)=some c8:=
   ⟨aM h,bG h,bK h,fQ h,gG h,sb h,wZ h,rt h,Dp h⟩
end
def O9 {T:TG} {S:DS} {b:Int} (e:CM.Ok T.puts) (a:∀x∈T.puts,x.1<G.y.blocks):(T.put G S b d).2.ended=T.ended/\(T.put G S b d).2.puts.length<=T.puts.length+1/\∀x∈(T.put G S b d).2.puts,x.1<G.y.blocks:=by
 unfold TG.put;split
 .exact⟨rfl,Nat.le_succ _,a⟩
 .rename_i q;split
  .exact⟨rfl,Nat.le_succ _,a⟩
  .split
   .exact⟨rfl,Nat.le_succ _,a⟩
   .split
    .exact⟨rfl,Nat.le_succ _,a⟩
    .obtain⟨_,_,_,f,g⟩:=iW (Decidable.of_not_not q);refine⟨rfl,?_,λx c=>?_⟩
     .show (CM.put T.puts b.toNat d).length<=_;rw [CM.sC e];split <;> omega
     .rcases CM.qU c with rfl|c
      .show b.toNat<_;omega
      .exact a x c
def PW.afB {w w':World} {F P:Nat->Prop} {p s c c':Nat} {S:DS} {o:List PI} {r:List PT} {J:PT} {T':TG} (h:PW w F P p s S c o r) (f:o[J.i]? =some I) (u:r[j]? =some J) (nQ:w'.heap[J.t]? =some (.cells (BI I.q J.n T') 88 (0,0))) (nh:Ch w' J.n T'.puts) (pb:∀x∈T'.puts,x.1<I.G.y.blocks) (hd:B.ax w' F p s S c') (k:aa (λg=>F g\/g=J.t\/g=J.n) w w'):PW w' F P p s S c' o (r.set j {J with T:=T'}):=by
 have b:=h.ES f;have e:=h.Ld u f;have bw:it w' F p s c' I.q I.l I.m S I.G:=⟨hd,b.st.aw k (λa=>by rcases a with a|a|a;exact b.nq a;exact e.tq a.symm;exact e.nq a.symm),b.lp.aw k (λa=>by rcases a with a|a|a;exact b.nl a;exact e.tl a.symm;exact e.nl a.symm),b.ch.aw k (λa=>by rcases a with a|a|a;exact b.nm a;exact e.tm a.symm;exact e.nm a.symm),b.nq,b.nl,b.nm,b.ql,b.qm,b.lm,b.lk,b.bg,b.hs,b.kb⟩;have:=h.on f u rfl rfl (λg d=> .inl d) bw nQ nh pb (k.mono (λg d=>by rcases d with d|d|d;exact .inl d;exact .inr (.inr (.inr (.inr (.inl d))));exact .inr (.inr (.inr (.inr (.inr d))))));rwa [mJ f] at this
section
variable {w w':World} {q:Nat} {F P F2 X O A:Nat->Prop} {p r s c N:Nat} {S:DS} {v1 v2 v3 v4:Value} {ss:List PI} {ts:List PT} {rs:List RI} {us:List RJ}
end
end
section
section
variable {w w':World} {q:Nat} {F P F2 X O A:Nat->Prop} {p r s c N:Nat} {S:DS} {v1 v2 v3 v4:Value} {ss:List PI} {ts:List PT} {rs:List RI} {us:List RJ}
def Dg (h:W5 w q F P F2 X O p r s S S c v1 v2 v3 v4 ss ts rs us) (hl:Lk S s N ss ts rs us) (E:∀g,(F g\/P g\/F2 g\/X g\/O g)->A g) (mm:∀g,A g->g<w.heap.size) (h1:ss.length<=N) (h2:ts.length<=N) (hc:c<=5000*N) (hN:N<=3999999990000) (kd ag Z BB:Int) (da:Option Addr) (dn dc:Nat) (pa:Option Addr) (pn pc:Nat) (x y z:Int) (AG:ag<=9223372036854775807) (d:List Int) (xq:∀W,aa A w W->Src W da dn d) (xE:Bytes d) (DU:dn<=140737488355328) (EC:kd=4\/kd=5\/kd=6\/kd=7\/kd=8\/kd=9\/kd=12):
  Calls prog 28 #[pV q, .agg (j2 kd ag Z BB da dn dc pa pn pc x y z)] w λe w'=>e= .returned (.bool true)/\ec w w' q A p r s N:=by
 obtain⟨W,hW⟩:=bQ (w.alloc (.cells (j2 kd ag Z BB da dn dc pa pn pc x y z) 42));have EN:bW w W:=by rw [hW];exact(bi w.heap.size w).alloc (bS _) _
 have BX:W.heap[w.heap.size]? =some (.cells (j2 kd ag Z BB da dn dc pa pn pc x y z) 42 (0,0)):=by rw [hW];exact heap_alloc_new _ _
 have Hu:W.heap.size=w.heap.size+1:=by rw [hW,World.size_alloc]
 have uf:¬A w.heap.size:=λv=>by have:=mm _ v;omega
 obtain⟨a3,c3,hv3⟩:=AE h.o3;have TB:=h.later EN;have d0:W.cell? (aD w.heap.size 0)=some (iV kd):=aM BX;have d1:W.cell? (aD w.heap.size 1)=some (iV ag):=bG BX;have e4:=TB.c4;have tj:=λk=>AD (W.drewN k) ts.length ag AG (by omega);obtain⟨HW,U,CW,MA⟩:=cO TB hl EN BX;rw [hv3] at e4;clear h hl TB EN BX;go_in;go_wp2_with fail;rw [<-hW];clear hW;go_quiet (first|(go_at_call 70;refine Calls.quiet_of_same (tj _)));rename_i nq _;have hq:bW W (W.drewN nq):=below_drewN (bi _ _) nq;have fP:=(HW.later hq);have uG:=(CW.trans (hq.mono (by omega)));have Yp:(W.drewN nq).heap.size=w.heap.size+1:=Hu;have UQ:=((hq.block w.heap.size (by omega)).trans MA);clear HW CW MA tj hq d0 d1 e4 Hu;generalize W.drewN nq=V at*;have dV0:V.cell? (aD w.heap.size 0)=some (iV kd):=aM UQ;have dV2:V.cell? (aD w.heap.size 2)=some (iV Z):=bK UQ;have e4:=fP.c4;have e5:=fP.c5;by_cases q0:ts.length=0
 .have fO:bk ts.length ag= -1:=by unfold bk;rw [aG q0]
  rw [fO];go_wp2;go_ret;exact⟨rfl,ec.idle fP U E h1 h2 hc uG⟩
 .obtain⟨j,hj,Yw⟩:=TA (show 0<ts.length by omega) ag;rw [Yw];have Zg:¬(j:Int)<0:=by omega
  have YN:(j:Int)<(ts.length:Int):=by omega
  obtain⟨J,K,I,R,Q,H,D,Y,k1,k2,k3⟩:=fP.tx U hj;obtain⟨g3,cp3,TC,t3⟩:=vP (i:=j) fP.o3 (by rw [Be,Q];rfl);obtain⟨g4,cp4,TD,t4⟩:=vP (i:=j) fP.o4 (by rw [Be,H];rfl);rw [TC] at e4;rw [TD,U.tl] at e5;have By:rs[K.i]? =some R:=by rw [k1];exact Y
  clear Yw q0;rcases EC with rfl|rfl|rfl|rfl|rfl|rfl|rfl
  .have Jb:∀(x0 x1 x2 x3 x4:Int) (wx:World),(Instr.field 96 (.agg #[iV x0,iV x1,iV x2,iV x3,iV x4]) 0).run prog wx= .ok (iV x0) wx:=λ_ _ _ _ _ _=>by kernel_rfl
   have e0:=fP.c0;have Mj:=U.inv.p6;have og:=U.cs R (gz Y);have hld:(lr BB d).length<=140737488355328:=by
    have a1:=(xq w (aa.ah A (bi _ _))).1;rcases TL (B:=BB) (d:=d) with a2|a2 <;> omega
   have Bl:=Lr (B:=BB) xE;have Yc:=xq;have rL:∀g,F g\/P g->g<V.heap.size:=λg a=>a.elim (fP.pw.d.lt g) (fP.pw.lt g);have Fk:=rL;have Zv:∀g,F2 g\/X g->g<V.heap.size:=λg a=>a.elim (fP.rw.e.lt g) (fP.rw.lt g);have HXl:=Zv;have AM:=fP.pw.Ld Q D;have nj:=O9 (G:=I.G) (S:=S) (b:=Z) (d:=lr BB d) AM.ch.ok AM.kb;obtain⟨_,_,_,_,⟨pt,pn'⟩,_⟩:=fP.pw.tx J (gz Q);clear dV0 dV2 xq rL Zv AM;obtain⟨y0,y1,y2,y3,y4,y5,y6,y7,y8⟩:=iZ UQ;go_wp2_with fail;refine(lL 4 ag Z BB da dn dc pa pn pc x y z d V (Yc V (aa.ah A uG)) DU).mono ?_;rintro e V1 ⟨g1,rfl,po,YB,ar⟩;have KU:=fP.later ar;have e01:=KU.c0;obtain⟨IW,cQ,HW1,zm⟩:=cO (B.qZ KU.pw.d (by omega) (by omega)) ar KU YB;clear ar KU YB y0 y1 y2 y3 y4 y5 y6 y7 y8 e0;go_wp2_with fail;refine IW.mono ?_;rintro e C ⟨rr,rfl,I2,cI,bd⟩;have io:=HW1.prog (HW1.pw.lK (λg h=> .inl h) cI (aa.ah F bd)) (aa.ah _ bd) (λg h=> .inl h) rfl rfl;have oU:=zm.agree (bd.block g1 zm.lt);have sH:=Wa (io.pw.ES D) (io.pw.Ld Q D) Z (some (aD g1 0)) (lr BB d).length (lr BB d).length (lr BB d) oU.src hld Bl (by omega);have abj:=cQ.trans (bd.mono cQ.size);have TM:=(abj.block w.heap.size (by omega)).trans UQ;obtain⟨z2,fd,xz,dP,Vw⟩:=eK (bK TM) io oU abj TM;clear IW cI bd io oU abj TM e01;unfold zS at sH;have HPu:=(λ(V4:World) (ts2:List PT) (c2:Nat) (ga:Nat) (hw:W5 V4 q F P F2 X O p r s S S c2 v1 v2 v3 v4 ss ts2 rs us) (be:ay V4 5 ga (lr BB d).length (bs (lr BB d)))=>Sg hw.rw.e (hw.rw.jR Y) (hw.rw.ph H By) Z (some (aD ga 0)) (lr BB d).length (lr BB d).length (lr BB d) be.src hld Bl (by omega) (by omega));unfold fI at HPu;rw [k2,k3] at HPu;generalize akH:J.T.put I.G S Z (lr BB d)=Pu at*;clear akH;go_wp2_with fail;refine sH.mono ?_;rintro e V3 ⟨rfl,Iz,OM,hd3,aZ⟩;have oZ:aa (λg=>F g\/P g) C V3:=aZ.mono (λg a=>by rcases a with a|a|a;exact .inl a;exact .inr (a▸pt);exact .inr (a▸pn'));have iG:=fd.prog (fd.pw.afB D Q Iz OM nj.2.2 hd3 aZ) oZ (λg h=> .inl h) rfl (gg (f:=λJ:PT=>pV J.t) Q rfl);have TN:=(oZ.block w.heap.size (aq Vw) (λv=>uf (E _ (by rcases v with v|v;exact .inl v;exact .inr (.inl v))))).trans Vw;have rK:=xz.agree (oZ.block g1 xz.lt (λv=>by have:=Fk g1 v;omega));obtain⟨y0,y1,y2,y3,y4,y5,y6,y7,y8⟩:=iZ TN;have B2:=((aa.ah A uG).trans (aa.ah (λ_=>False) dP) (λ_ h=>h.elim)).trans oZ (λg a=> .inl (E g (by rcases a with a|a;exact .inl a;exact .inr (.inl a))));obtain⟨akI,HW3,Vy,Jc,HA3,ly⟩:=jE (lL 4 ag Z BB da dn dc pa pn pc x y z d V3 (Yc V3 B2) DU) iG TN rK B2 (j3 dP.size oZ.size);clear sH Iz OM hd3 aZ oZ iG TN rK B2 z2;have kt:=ai (bi V3.heap.size V3);have afE:=lL 4 ag Z BB da dn dc pa pn pc x y z d V3.drew (Yc V3.drew (HA3.trans (aa.ah (λ_=>False) kt) (λ_ h=>h.elim))) DU;have sP:=kt;have hzd:V3.drew.heap.size=V3.heap.size:=rfl;clear akI kt;go_wp2_with fail;go_region_held3 (λw'=>w'.cell? (aD w.heap.size 0)=some (iV 4)/\w'.cell? (aD w.heap.size 1)=some (iV ag)/\w'.cell? (aD w.heap.size 2)=some (iV Z)/\w'.cell? (aD w.heap.size 3)=some (iV BB)/\w'.cell? (aD w.heap.size 4)=some (.slice da dn dc)/\w'.cell? (aD w.heap.size 5)=some (.slice pa pn pc)/\w'.cell? (aD w.heap.size 6)=some (iV x)/\w'.cell? (aD w.heap.size 7)=some (iV y)/\w'.cell? (aD w.heap.size 8)=some (iV z))
    (first|exact⟨y0,y1,y2,y3,y4,y5,y6,y7,y8⟩|exact HZ4|exact HZ5)
    (first
     |(go_at_call 77;refine afE.mono ?_;rintro e V4 ⟨g4',rfl,Gm,MI,nR⟩;have fw:=sP.trans (nR.mono (bS _));have xC:=HW3.later fw;have wL:=HPu V4 _ _ g4' xC MI;have YC:=(fw.block w.heap.size (aq Vy)).trans Vy;have HZ4:=(iZ YC);have IY:=xC;have XM:=YC;have jU:=fw)
     |(go_at_call 79;refine wL.mono ?_;rintro e V5 ⟨rfl,⟨tv',KF,Xi,afF⟩,dX⟩;have HZ5:=(iZ ((dX.block w.heap.size (aq XM) (λv=>uf (E _ (.inr (.inr (.inr (.inl (by rcases v with v|v;exact v▸(IY.rw.ph H By).xt;exact(IY.rw.ph H By).pl.row _ v)))))))).trans XM))))
   obtain⟨VG,HA4,wk,i4⟩:=cO ((Jc.agree (jU.block g1 Jc.lt))) ((HA3.trans (aa.ah (λ_=>False) jU) (λ_ h=>h.elim))) jU.size (IY.rw.ph H By);have afG:=IY.rw.Lf By H (K':={K with T:=Pu.2,tv:=tv',us:=KF}) rfl rfl (X':=more X V4 V5) (λg h=> .inl h) (λg h=>h) (by rw [k3];exact Xi) afF dX (λg a=>a.elim (λh=>i5 (IY.rw.lt g h) dX.size) (λh=>h.2));have mT:aa (λg=>F2 g\/X g) V4 V5:=dX.mono (λg e=> .inr (by rcases e with e|e;exact e▸i4.xt;exact i4.pl.row g e));have PK:=IY.doc afG mT (λg h=> .inl h) (λg h=>h) rfl (gg (f:=λJ:RJ=>pV J.u) H rfl);have hL5:=U.upd (I':=I) (R':=R) (J':={J with T:=Pu.2}) (K':={K with T:=Pu.2,tv:=tv',us:=KF}) (M:=N+2) D Y Q H rfl rfl rfl rfl rfl k3 rfl (.inl ⟨nj.1,rfl⟩) (by omega) (by rw [mJ D];exact U.inv.more (by omega)) (by omega) (λhe=>by
    have YD:=nj.1.symm.trans he;have a0:=U.ct J.i R K Y (gz H) k1 (by rw [k2];exact YD);have a3:=i4.pu (by rw [k2];exact YD);have a5:=nj.2.1;rw [(Xi.pu he),qv (ms:= []) rO Xi.nd (λ_ _=>rfl),<-k2,a3,(qv (ms:= []) rO i4.nd (λ_ _=>rfl))] at a5;have a6:([]:CM).length=0:=rfl;show R.ps.length+KF.length<=_;omega) (.inl rfl) rfl
   rw [mJ D,mJ Y] at hL5;have YE:=(mT.block w.heap.size (aq XM) (λv=>uf (E _ (by rcases v with v|v;exact .inr (.inr (.inl v));exact .inr (.inr (.inr (.inl v))))))).trans XM;have YF:=VG.agree (mT.block g1 VG.lt (λv=>by have:=HXl g1 v;omega));obtain⟨y0,y1,y2,y3,y4,y5,y6,y7,y8⟩:=iZ YE;have abk:=HA4.trans mT (λg a=> .inl (E g (by rcases a with a|a;exact .inr (.inr (.inl a));exact .inr (.inr (.inr (.inl a))))));obtain⟨afH,Tx,HL5,HR5,HA5,pL⟩:=jE (lL 4 ag Z BB da dn dc pa pn pc x y z d V5 (Yc V5 abk) DU) PK hL5 YF abk mT.size;clear wL Xi afF dX i4 afG mT PK hL5 YE YF abk;go_wp2_with fail;refine afH.mono ?_;rintro e V6 ⟨g6,rfl,hg6,ws,nE⟩;have lz:=pr (some (aD g1 0)) (some (aD g6 0)) (lr BB d).length (lr BB d).length (lr BB d).length (lr BB d) V6 hld (HR5.agree (nE.block g1 HR5.lt)).src ws.src;have xu:=nE;clear afH ws nE y0 y1 y2 y3 y4 y5 y6 y7 y8;go_wp2_with fail;refine bM lz λV7 xx=>?_;have abl:=xu.trans (xx.mono xu.size);have hW7:=Tx.later abl;obtain⟨IA,e07,HW7,Fp⟩:=cO (B.qZ hW7.pw.d (by omega) (by omega)) hW7.c0 hW7 abl;clear lz xx abl hW7;go_wp2_with fail;refine IA.mono ?_;rintro e V8 ⟨r8,rfl,hr8,oM,BN⟩;have hW8:=HW7.prog (HW7.pw.lK (λg h=> .inl h) oM (aa.ah F BN)) (aa.ah _ BN) (λg h=> .inl h) rfl rfl;have d6:(r8:Int)<=(rr:Int)+1:=(by omega);have akK:=uG.size;have HF:(ec w V8 q A p r s N):=⟨λg=>A g\/w.heap.size<=g,⟨F,P,F2,more X V4 V5,O,S,r8,v1,v2,v3,v4,ss,_,rs,_,hW8,HL5,λg a=>(by
     rcases a with a|a|a|(a|a)|a
     .exact .inl (E g (.inl a))
     .exact .inl (E g (.inr (.inl a)))
     .exact .inl (E g (.inr (.inr (.inl a))))
     .exact .inl (E g (.inr (.inr (.inr (.inl a)))))
     .exact .inr (by omega)
     .exact .inl (E g (.inr (.inr (.inr (.inr a)))))),by omega,by rw [List.length_set];omega,by omega⟩,(HA5.trans (aa.ah (λ_=>False) Fp) (λ_ h=>h.elim)).trans (aa.ah (λ_=>False) BN) (λ_ h=>h.elim),λ_ h=>h⟩
   clear IA oM BN hW8;go_wp2;go_ret;exact⟨by simp,HF⟩
  .have Jb:∀(x0 x1 x2 x3 x4:Int) (wx:World),(Instr.field 96 (.agg #[iV x0,iV x1,iV x2,iV x3,iV x4]) 0).run prog wx= .ok (iV x0) wx:=λ_ _ _ _ _ _=>by kernel_rfl
   have e0:=fP.c0;have Mj:=U.inv.p6;have og:=U.cs R (gz Y);have IW:=B.qZ fP.pw.d (by omega) (by omega);have mR:J.T.refusal I.G S Z=0->(J.T.jY I.G S Z.toNat).length=512:=λhz=>by
    obtain⟨_,_,_,h4,h5⟩:=iW hz;exact zP (fP.pw.ES D) (fP.pw.Ld Q D) Z.toNat (by omega)
   by_cases qc:J.T.refusal I.G S Z=0
   .have arP:=mR qc;go_wp2_with fail;refine IW.mono ?_;rintro e C ⟨rr,rfl,I2,cI,bd⟩;have io:=fP.prog (fP.pw.lK (λg h=> .inl h) cI (aa.ah F bd)) (aa.ah _ bd) (λg h=> .inl h) rfl rfl;obtain⟨wj,e42,abm,fd,dP⟩:=eK (Ef (io.pw.ES D) (io.pw.Ld Q D) Z (by omega)) (dw (aa.ah (λ_=>False) bd) (λh=>h) e4) (dw (aa.ah (λ_=>False) bd) (λh=>h) dV2) io bd;clear IW cI bd io;go_wp2_with fail;refine wj.mono ?_;rintro e V3 ⟨ho,hd3,aZ⟩;unfold vy at ho;rw [aB (λh=>h qc)] at ho;obtain⟨g3',rfl,arR,aV⟩:=ho;have TO:=fd.pw.lK (λg h=> .inl h) hd3 aZ;have hkF:aa (λg=>F g\/P g) C V3:=aZ.mono (λg h=> .inl h);have iG:=fd.prog TO hkF (λg h=> .inl h) rfl rfl;have mN:=Ag iG.rw.e (iG.rw.jR Y) (iG.rw.ph H By) Z (by omega) (by omega);rw [k2,k3] at mN;have akL:=dw aZ (λv=>uf (E _ (.inl v))) abm;have HW3:=iG;have lO:=aZ;clear wj hd3 aZ TO hkF iG;go_wp2_with fail;refine mN.mono ?_;rintro e V4 ⟨ho,fw⟩;unfold rg at ho;rw [aB (λh=>h qc)] at ho;obtain⟨g4',rfl,arS,wL⟩:=ho;have lz:=pr (some (aD g3' 0)) (some (aD g4' 0)) 512 512 512 (J.T.jY I.G S Z.toNat) V4 (by omega) (by
     have h9:=(aV.aw (fw.block g3' aV.lt)).src (o:=0) (n:=512) (by omega);rwa [List.drop_zero,nr (by omega)] at h9) (by have h9:=wL.src;rwa [mR qc] at h9)
    have jU:=fw;have IY:=HW3.later fw;clear mN fw;go_wp2_with fail;refine bM lz λV5 fa=>?_;have PK:=IY.later fa;obtain⟨IA,e05,Tx,jq⟩:=cO (B.qZ PK.pw.d (by omega) (by omega)) PK.c0 PK fa;clear lz fa PK;go_wp2_with fail;refine IA.mono ?_;rintro e V6 ⟨r6,rfl,IS,pE,nE⟩;have Fi:=Tx.prog (Tx.pw.lK (λg h=> .inl h) pE (aa.ah F nE)) (aa.ah _ nE) (λg h=> .inl h) rfl rfl;have d6:(r6:Int)<=(rr:Int)+1:=(by omega);have HF:(ec w V6 q A p r s N):=⟨A,⟨F,P,F2,X,O,S,r6,v1,v2,v3,v4,ss,ts,rs,us,Fi,U.more (by omega),E,by omega,by omega,by omega⟩,((((((aa.ah A uG).trans (aa.ah (λ_=>False) dP) (λ_ h=>h.elim)).trans lO (λg a=> .inl (E g (.inl a)))).trans (aa.ah (λ_=>False) jU) (λ_ h=>h.elim)).trans (aa.ah (λ_=>False) jq) (λ_ h=>h.elim)).trans (aa.ah (λ_=>False) nE) (λ_ h=>h.elim)),λ_ h=> .inl h⟩;clear IA pE nE Fi;go_wp2;go_ret;exact⟨by simp,HF⟩
   .have hqq:=qc;go_wp2_with fail;refine IW.mono ?_;rintro e C ⟨rr,rfl,I2,cI,bd⟩;have io:=fP.prog (fP.pw.lK (λg h=> .inl h) cI (aa.ah F bd)) (aa.ah _ bd) (λg h=> .inl h) rfl rfl;obtain⟨wj,e42,abm,fd,dP⟩:=eK (Ef (io.pw.ES D) (io.pw.Ld Q D) Z (by omega)) (dw (aa.ah (λ_=>False) bd) (λh=>h) e4) (dw (aa.ah (λ_=>False) bd) (λh=>h) dV2) io bd;clear IW cI bd io;go_wp2_with fail;refine wj.mono ?_;rintro e V3 ⟨ho,hd3,aZ⟩;unfold vy at ho;rw [aG qc] at ho;subst ho;have TO:=fd.pw.lK (λg h=> .inl h) hd3 aZ;have hkF:aa (λg=>F g\/P g) C V3:=aZ.mono (λg h=> .inl h);have iG:=fd.prog TO hkF (λg h=> .inl h) rfl rfl;have mN:=Ag iG.rw.e (iG.rw.jR Y) (iG.rw.ph H By) Z (by omega) (by omega);rw [k2,k3] at mN;have akL:=dw aZ (λv=>uf (E _ (.inl v))) abm;have HW3:=iG;have lO:=aZ;clear wj hd3 aZ TO hkF iG;go_wp2_with fail;refine mN.mono ?_;rintro e V4 ⟨ho,fw⟩;unfold rg at ho;rw [aG qc] at ho;subst ho;have lz:Calls prog 16 #[.slice none 0 0, .slice none 0 0] V4 λe w'=>e= .returned (.bool true)/\bW V4 w':=(B6 none none 0 0 V4).mono (by rintro e w' ⟨rfl,rfl⟩;exact⟨rfl,bi _ _⟩);have jU:=fw;have IY:=HW3.later fw;clear mN fw;go_wp2_with fail;refine bM lz λV5 fa=>?_;have PK:=IY.later fa;obtain⟨IA,e05,Tx,jq⟩:=cO (B.qZ PK.pw.d (by omega) (by omega)) PK.c0 PK fa;clear lz fa PK;go_wp2_with fail;refine IA.mono ?_;rintro e V6 ⟨r6,rfl,IS,pE,nE⟩;have Fi:=Tx.prog (Tx.pw.lK (λg h=> .inl h) pE (aa.ah F nE)) (aa.ah _ nE) (λg h=> .inl h) rfl rfl;have d6:(r6:Int)<=(rr:Int)+1:=(by omega);have HF:(ec w V6 q A p r s N):=⟨A,⟨F,P,F2,X,O,S,r6,v1,v2,v3,v4,ss,ts,rs,us,Fi,U.more (by omega),E,by omega,by omega,by omega⟩,((((((aa.ah A uG).trans (aa.ah (λ_=>False) dP) (λ_ h=>h.elim)).trans lO (λg a=> .inl (E g (.inl a)))).trans (aa.ah (λ_=>False) jU) (λ_ h=>h.elim)).trans (aa.ah (λ_=>False) jq) (λ_ h=>h.elim)).trans (aa.ah (λ_=>False) nE) (λ_ h=>h.elim)),λ_ h=> .inl h⟩;clear IA pE nE Fi;go_wp2;go_ret;exact⟨by simp,HF⟩
  .have bw:=nO (fP.pw.ES D) (fP.pw.Ld Q D);have Ls:=λ(C:World) (hb:bW V C)=>kq (fP.later hb).rw.e ((fP.later hb).rw.jR Y) ((fP.later hb).rw.ph H By).tx;rw [k2,k3] at Ls;have Oz:=Ls;clear Ls;go_wp2_with fail;refine bM bw λC bd=>?_;have fy:=Oz C bd;have dP:=bd;clear bw bd;go_wp2_with fail;refine bM fy λV3 bF=>?_;have gd:=(dP.trans (bF.mono dP.size));clear fy bF;go_wp2;go_ret;exact⟨by simp,ec.idle (fP.later gd) U E h1 h2 hc (uG.trans (gd.mono uG.size))⟩
  .have hsp:=CO (fP.pw.ES D) (fP.pw.Ld Q D) Z;have HSp:=(λ(C:World) (hw:W5 C q F P F2 X O p r s S S c v1 v2 v3 v4 ss (ts.set j {J with T:=(J.T.mE I.G S Z).2}) rs us)=>Ks hw.rw.e (hw.rw.jR Y) (hw.rw.ph H By).tx Z);have lG:(J.T.mE I.G S Z).2.ended=J.T.ended/\(J.T.mE I.G S Z).2.puts=J.T.puts:=by
    unfold TG.mE;split
    .exact⟨rfl,rfl⟩
    .split <;> exact⟨rfl,rfl⟩
   rw [k2,k3] at HSp;generalize J.T.mE I.G S Z=Sp at*;go_wp2_with fail;refine fR hsp λC bd I4=>?_;have AM:=fP.pw.Ld Q D;have aY:aa (λg=>g=J.t\/g=J.n) V C:=I4.mono (λ_ h=> .inl h);have nU:=fP.pw.Lf D Q (T':=Sp.2) bd (by rw [lG.2];exact AM.ch.aw I4 (λe=>AM.tn e.symm)) (by rw [lG.2];exact AM.kb) aY;obtain⟨_,_,_,_,⟨pt,pn'⟩,_⟩:=fP.pw.tx J (gz Q);have oZ:aa (λg=>F g\/P g) V C:=I4.mono (λg e=> .inr (e▸pt));have io:=fP.prog nU oZ (λg a=> .inl a) rfl (gg (f:=λJ:PT=>pV J.t) Q rfl);have fy:=HSp C io;have arU:=dw oZ (λv=>uf (E _ (by rcases v with v|v;exact .inl v;exact .inr (.inl v)))) dV2;have fd:=io;have ig:=oZ;clear hsp bd I4 aY nU oZ io;go_wp2_with fail;refine fR fy λV3 bF aZ=>?_;have i4:=fd.rw.ph H By;have nV:=fd.rw.Lf By H (K':={K with T:=Sp.2}) rfl rfl (λg h=>h) (λg h=> .inl h) ⟨bF,i4.xt,i4.pl.other i4.tx (by decide) (by decide) aZ,i4.nd,λhe=>by
    show Sp.2.puts=_;rw [lG.2,<-k2];exact i4.pu (by rw [k2,<-lG.1];exact he),i4.kb,i4.Eg⟩ (.inl rfl) (aZ.mono (λ_ h=> .inl h)) (λg a=>i5 (fd.rw.lt g a) aZ.size)
   have mT:aa (λg=>F2 g\/X g) C V3:=aZ.mono (λg e=> .inr (e▸i4.xt));have iG:=fd.doc nV mT (λg h=> .inl h) (λg h=> .inl h) rfl (gg (f:=λJ:RJ=>pV J.u) H rfl);have MO:=U.Lf (J':={J with T:=Sp.2}) (K':={K with T:=Sp.2}) Q H rfl rfl rfl rfl lG.1 (by show K.us.length<=_;omega);have uJ:=((aa.ah A uG).trans ig (λg a=> .inl (E g (by rcases a with a|a;exact .inl a;exact .inr (.inl a))))).trans mT (λg a=> .inl (E g (by rcases a with a|a;exact .inr (.inr (.inl a));exact .inr (.inr (.inr (.inl a))))));have HF:(ec w V3 q A p r s N):=⟨A,⟨F,P,F2,X,O,S,c,v1,v2,v3,v4,ss,_,rs,_,iG,MO.more (by omega),E,by omega,by rw [List.length_set];omega,by omega⟩,uJ,λ_ h=> .inl h⟩;clear fy bF aZ i4 nV mT iG MO uJ;go_wp2;go_ret;exact⟨by simp,HF⟩
  .by_cases qs:J.T.state I.G S=0
   .obtain⟨Mj,dD,jZ,AM,uQ,i4,og⟩:=nw U.inv.p6 U.inv.pZ (fP.pw.ES D) (fP.pw.Ld Q D) (fP.rw.jR Y) (fP.rw.ph H By) (U.cs R (gz Y));have hi:(ss.map (λI=>I.G.L))[J.i]? =some I.G.L:=(by rw [Be,D];rfl);have Xj:∀q∈I.G.ov,I.G.y.home+q.1<s/\q.2.length=512/\Bytes q.2:=λx v=>by
     have a1:=jZ.kb x v;have a2:=jZ.hs;exact⟨by omega,(jZ.ch.len x v).2⟩
    have BO:I.G.L.f+2+I.G.L.n<=I.G.y.home:=(by have:=uQ.lh;rw [k3] at this;exact this);have fB:=λhu=>by
     obtain⟨hd,hb⟩:=Df hu;obtain⟨ha,hf⟩:=Lh hd;exact((U.inv.al I.G.L (gz hi) ha hf).1 hb).2
    obtain⟨f1,hinv,dL,lG,f5⟩:=BZ (T:=J.T) U.inv hi jZ.bg Xj jZ.ch.small BO (λx v=>(AM.ch.len x v).2.2) qs;have ET:=La (T:=J.T) (G:=I.G) (S:=S) (s:=s) (λx v=>(Xj x v).1) (by have:=jZ.lk.n1;omega) (by have:=jZ.lk.s;omega);have UE:J.T.puts.length<=16:=by
     have a1:=i4.pu (by rw [k2];exact lG);have a3:=i4.Eg;rw [<-k2,a1,(qv (ms:= []) rO i4.nd (λ_ _=>rfl))];show 0+_<=_;omega
    have V0:=U.ct J.i R K Y (gz H) k1 (by rw [k2];exact lG);have Ee:=Kz jZ AM UE dD (by omega);have HCm:=(λ(C:World) (F3:Nat->Prop) (S':DS) (c2:Nat) (Xk:List PI) (ts2:List PT) (hw:W5 C q F3 P F2 X O p r s S' S c2 v1 v2 v3 v4 Xk ts2 rs us)=>Ha hw.rw.e (hw.rw.jR Y) (hw.rw.ph H By) (hw.rw.r3 R (gz Y) K (gz H)) dD (by rw [k3];exact fB) (by omega) (by omega));have HI2:=hinv;have abn:=dL;rw [k3,k2] at HCm;unfold R8 at Ee;unfold il at HCm;have hPu:(J.T.bI I.G S s).2.2.2.ended=J.T.ended/\(J.T.bI I.G S s).2.2.1.busy=I.G.busy\/J.T.ended=false/\(J.T.bI I.G S s).2.2.2.ended=true/\(J.T.bI I.G S s).2.2.1.busy=false:=f5.imp (λh=>⟨by rw [h.1],h.2⟩) (λh=>⟨lG,by rw [h.1];rfl,h.2⟩);clear hinv dL Xj BO fB uQ dD i4 f5 qs UE;generalize J.T.bI I.G S s=Cm at*;go_wp2_with fail;refine Ee.mono ?_;rintro e C ⟨rfl,⟨ln,Ah⟩,aY⟩;obtain⟨_,_,_,⟨pq,pl,pm⟩,_⟩:=fP.pw.st I (gz D);obtain⟨_,_,_,_,⟨pt,pn'⟩,_⟩:=fP.pw.tx J (gz Q);have nU:=fP.pw.on D Q rfl (G':=Cm.2.2.1) (T':=Cm.2.2.2) f1 (λg h=>h) ln Ah.tx Ah.ch Ah.kb (aY.mono (λg a=>by rcases a with a|a|a|a|a|a;exact .inl a;exact .inr (.inr (.inl a));exact .inr (.inr (.inr (.inl a)));exact .inr (.inr (.inr (.inr (.inl a))));exact .inr (.inr (.inr (.inr (.inr a))));exact .inr (.inl a)));have oZ:aa (λg=>F g\/P g) V C:=aY.mono (λg a=>by rcases a with a|a|a|a|a|a;exact .inl a;exact .inr (a▸pl);exact .inr (a▸pm);exact .inr (a▸pt);exact .inr (a▸pn');exact .inr (a▸pq));have io:=fP.prog nU oZ (λg h=>h) (gg (f:=λI:PI=>pV I.q) D rfl) (gg (f:=λJ:PT=>pV J.t) Q rfl);have fy:=HCm C _ _ _ _ _ io;have fd:=io;have ig:=oZ;clear Ee ln Ah aY nU oZ io jZ AM;go_wp2_with fail;refine fy.mono ?_;rintro e V3 ⟨F4,X4,pv',ps',hm',rfl,hF4,hX4,hX5,yq,vJ,Iz,⟨ip,je⟩,P5,aZ⟩;have uQ:=fd.rw.jR Y;have i4:=fd.rw.ph H By;have nV:=fd.rw.on Y H k1 (I':={R with G:=Cm.2.2.1,pv:=pv',ps:=ps',hm:=hm'}) (J':={K with T:=Cm.2.2.2}) rfl rfl (f1.trans (by rw [k3])) rfl rfl yq hX5 hX4 vJ Iz P5 (.inl rfl) (λg a v=>by
     rcases P5 with P5|P5
     .have Rt:pv'.ownBlock=some g:=a;rw [P5] at Rt;exact fd.rw.r3 R (gz Y) K (gz H) g Rt v
     .have a1:=P5 g a;have a2:=fd.rw.lt g (i4.pl.row g v);omega) (aZ.mono (λg a=>by rcases a with a|a|a|a|a;exact .inl a;exact .inr (.inl a);exact .inr (.inr (.inl a));exact .inr (.inr (.inr (.inl a)));exact .inr (.inr (.inr (.inr (.inl a)))))) (abn.imp id (λh n M hM dM=>by
     obtain⟨A',hA'⟩:∃A',ss[n]? =some A':=⟨ss[n]'(by rw [<-U.sl];exact(mL.1 hM).1),List.getElem?_eq_getElem _⟩;have:=h n A'.G.L (by rw [Be,hA'];rfl) dM;rw [U.sg n A' M hA' hM];exact this))
    have mT:aa (λg=>F2 g\/X g) C V3:=aZ.mono (λg a=>by rcases a with a|a|a|a|a;exact .inl a;exact .inr (a▸uQ.xk);exact .inr (a▸uQ.xl);exact .inr (a▸i4.xt);exact .inr (uQ.pl.row g a));have MO:=U.upd (I':={I with G:=Cm.2.2.1}) (R':={R with G:=Cm.2.2.1,pv:=pv',ps:=ps',hm:=hm'}) (J':={J with T:=Cm.2.2.2}) (K':={K with T:=Cm.2.2.2}) (M:=N+2) D Y Q H rfl rfl rfl rfl rfl rfl rfl hPu (by omega) (by rw [List.map_set];exact HI2.more (by omega)) (by show ps'.length<=_;omega) (λhe=>by
     have a1:=je he;subst a1;show R.ps.length+K.us.length<=_;omega) (.inr lG) ET
    have uJ:=((aa.ah A uG).trans ig (λg a=> .inl (E g (by rcases a with a|a;exact .inl a;exact .inr (.inl a))))).trans mT (λg a=> .inl (E g (by rcases a with a|a;exact .inr (.inr (.inl a));exact .inr (.inr (.inr (.inl a))))));have eE:=uG.size;have jC:=ig.size;have HF:(ec w V3 q A p r s N):=⟨λg=>A g\/w.heap.size<=g,⟨more F V C,P,F4,X4,O,_,c+40,v1,v2,v3,v4,_,_,_,_,fd.doc nV mT hF4 hX4 (gg (f:=λI:RI=>pV I.k) Y rfl) (gg (f:=λJ:RJ=>pV J.u) H rfl),MO,λg a=>(by
     rcases a with (a|a)|a|a|a|a
     .exact .inl (E g (.inl a))
     .exact .inr (by omega)
     .exact .inl (E g (.inr (.inl a)))
     .rcases hF4 g a with a|a
      .exact .inl (E g (.inr (.inr (.inl a))))
      .exact .inr (by omega)
     .rcases hX4 g a with a|a
      .exact .inl (E g (.inr (.inr (.inr (.inl a)))))
      .exact .inr (by omega)
     .exact .inl (E g (.inr (.inr (.inr (.inr a)))))),by rw [List.length_set];omega,by rw [List.length_set];omega,by omega⟩,uJ,λ_ h=>h⟩
    clear fy hF4 hX4 hX5 yq vJ Iz ip je P5 aZ nV mT MO uJ;go_wp2;go_ret;exact⟨by simp,HF⟩
   .have Ee:=O6 (fP.pw.ES D) (fP.pw.Ld Q D) qs;have Ls:=λ(C:World) (hb:bW V C)=>Li (fP.later hb).rw.e ((fP.later hb).rw.jR Y) ((fP.later hb).rw.ph H By) (by rw [k2,k3];exact qs);rw [k2,k3] at Ls;have Oz:=Ls;clear Ls qs;go_wp2_with fail;refine bM Ee λC bd=>?_;have fy:=Oz C bd;have dP:=bd;clear Ee bd;go_wp2_with fail;refine bM fy λV3 bF=>?_;have gd:=dP.trans (bF.mono dP.size);clear fy bF;go_wp2;go_ret;exact⟨by simp,ec.idle (fP.later gd) U E h1 h2 hc (uG.trans (gd.mono uG.size))⟩
  .have oE:=N5 (fP.pw.ES D) (fP.pw.Ld Q D);have HAb:=(λ(C:World) (G2:SG) (Xk:List PI) (ts2:List PT) (hw:W5 C q F P F2 X O p r s S S c v1 v2 v3 v4 Xk ts2 rs us)=>Kt hw.rw.e (hw.rw.jR Y) (hw.rw.ph H By).tx);have akP:(J.T.abort I.G S).2.2.y=I.G.y/\(J.T.abort I.G S).2.2.L=I.G.L/\(J.T.abort I.G S).2.2.ov=I.G.ov/\((J.T.abort I.G S).2.1.puts=J.T.puts\/(J.T.abort I.G S).2.1.puts= [])/\(((J.T.abort I.G S).2.1=J.T/\(J.T.abort I.G S).2.2.busy=I.G.busy)\/(J.T.ended=false/\(J.T.abort I.G S).2.1.ended=true/\(J.T.abort I.G S).2.2.busy=false)):=by
    unfold TG.abort;by_cases qo:J.T.bT I.G S≠0
    .rw [aG qo];exact⟨rfl,rfl,rfl, .inl rfl, .inl ⟨rfl,rfl⟩⟩
    .rw [aB qo];refine⟨rfl,rfl,rfl, .inr rfl, .inr ⟨?_,rfl,rfl⟩⟩;unfold TG.bT at qo;cases he:J.T.ended
     .rfl
     .rw [he] at qo;exfalso;apply qo;split <;> decide
   rw [k2,k3] at HAb;obtain⟨f1,f2,f3,f4,f5⟩:=akP;generalize J.T.abort I.G S=Ab at*;go_wp2_with fail;refine oE.mono ?_;rintro e C ⟨rfl,bd,Bq,bo,I4⟩;have jZ:=fP.pw.ES D;have AM:=fP.pw.Ld Q D;obtain⟨_,_,_,⟨pq,pl,pm⟩,_⟩:=fP.pw.st I (gz D);obtain⟨_,_,_,_,⟨pt,pn'⟩,_⟩:=fP.pw.tx J (gz Q);have ln:it C F p s c I.q I.l I.m S Ab.2.2:=⟨jZ.d.aw I4 (λg a v=>by rcases v with v|v|v;exact AM.nt (v▸a);exact AM.nn (v▸a);exact jZ.nq (v▸a)),by rw [f1];exact bo,by rw [f2];exact jZ.lp.aw I4 (λv=>by rcases v with v|v|v;exact AM.tl v.symm;exact AM.nl v.symm;exact jZ.ql v.symm),by rw [f3];exact jZ.ch.aw I4 (λv=>by rcases v with v|v|v;exact AM.tm v.symm;exact AM.nm v.symm;exact jZ.qm v.symm),jZ.nq,jZ.nl,jZ.nm,jZ.ql,jZ.qm,jZ.lm,by rw [f2];exact jZ.lk,by rw [f2];exact jZ.bg,by rw [f1];exact jZ.hs,by rw [f3,f1];exact jZ.kb⟩;have nU:=fP.pw.on D Q rfl (G':=Ab.2.2) (T':=Ab.2.1) f1 (λg a=> .inl a) ln bd Bq (λx v=>by
    rw [f1];rcases f4 with f4|f4
    .rw [f4] at v;exact AM.kb x v
    .rw [f4] at v;cases v) (I4.mono (λg a=>by rcases a with a|a|a;exact .inr (.inr (.inr (.inr (.inl a))));exact .inr (.inr (.inr (.inr (.inr a))));exact .inr (.inl a)))
   have oZ:aa (λg=>F g\/P g) V C:=I4.mono (λg e=> .inr (by rcases e with e|e|e;exact e▸pt;exact e▸pn';exact e▸pq));have io:=fP.prog nU oZ (λg a=> .inl a) (gg (f:=λI:PI=>pV I.q) D rfl) (gg (f:=λJ:PT=>pV J.t) Q rfl);have fy:=HAb C Ab.2.2 _ _ io;have fd:=io;have ig:=oZ;clear oE bd Bq bo I4 ln nU oZ io jZ;go_wp2_with fail;refine fR fy λV3 bF aZ=>?_;have i4:=fd.rw.ph H By;have nV:=fd.rw.Lf By H (K':={K with T:=Ab.2.1}) rfl rfl (λg h=>h) (λg h=> .inl h) ⟨bF,i4.xt,i4.pl.other i4.tx (by decide) (by decide) aZ,i4.nd,λhe=>(by
    show Ab.2.1.puts=_;rcases f5 with ⟨f6,_⟩|⟨_,f6,_⟩
    .rw [f6,<-k2];exact i4.pu (by rw [k2,<-f6];exact he)
    .have YD:Ab.2.1.ended=false:=he;rw [f6] at YD;cases YD),i4.kb,i4.Eg⟩ (.inl rfl) (aZ.mono (λ_ h=> .inl h)) (λg a=>i5 (fd.rw.lt g a) aZ.size)
   have mT:aa (λg=>F2 g\/X g) C V3:=aZ.mono (λg e=> .inr (e▸i4.xt));have iG:=fd.doc (nV.reG (G':=Ab.2.2) Y (by rw [f1,k3]) (by rw [f2,k3]) (by rw [f3,k3])) mT (λg h=> .inl h) (λg h=> .inl h) (gg (f:=λI:RI=>pV I.k) Y rfl) (gg (f:=λJ:RJ=>pV J.u) H rfl);have og:=U.cs R (gz Y);have YG:(ss.set J.i {I with G:=Ab.2.2}).map (λI=>I.G.L)=ss.map (λI=>I.G.L):=by
    rw [List.map_set];apply mJ;rw [Be,D];show some I.G.L=some Ab.2.2.L;rw [f2]
   have MO:=U.upd (I':={I with G:=Ab.2.2}) (R':={R with G:=Ab.2.2}) (J':={J with T:=Ab.2.1}) (K':={K with T:=Ab.2.1}) (M:=N+2) D Y Q H rfl rfl rfl rfl rfl rfl rfl (f5.imp (λh=>⟨by show Ab.2.1.ended=_;rw [h.1],h.2⟩) id) (by omega) (by rw [YG];exact U.inv.more (by omega)) (by show R.ps.length<=_;omega) (λhe=>by
    rcases f5 with ⟨f6,_⟩|⟨_,f6,_⟩
    .have:=U.ct J.i R K Y (gz H) k1 (by rw [k2,<-f6];exact he);show R.ps.length+K.us.length<=_;omega
    .have YD:Ab.2.1.ended=false:=he;rw [f6] at YD;cases YD) (.inl rfl) rfl
   have uJ:=((aa.ah A uG).trans ig (λg a=> .inl (E g (by rcases a with a|a;exact .inl a;exact .inr (.inl a))))).trans mT (λg a=> .inl (E g (by rcases a with a|a;exact .inr (.inr (.inl a));exact .inr (.inr (.inr (.inl a))))));have HF:(ec w V3 q A p r s N):=⟨A,⟨F,P,F2,X,O,S,c,v1,v2,v3,v4,_,_,_,_,iG,MO,E,by rw [List.length_set];omega,by rw [List.length_set];omega,by omega⟩,uJ,λ_ h=> .inl h⟩;clear fy bF aZ i4 nV mT iG MO uJ YG AM;go_wp2;go_ret;exact⟨by simp,HF⟩
  .have Jo:=GS (fP.pw.ES D).st (fP.pw.Ld Q D);have Oz:=(λ(C:World) (hb:bW V C)=>aH ((fP.later hb).rw.jR Y).st ((fP.later hb).rw.ph H By).tx);go_wp2_with fail;refine bM Jo λC bd=>?_;obtain⟨bo,Sj⟩:=Oz C bd;rw [k3] at bo;have iq:=aJ C (.cells #[.int .i64 (I.G.y.log:Int), .int .i64 (I.G.y.home:Int), .int .i64 (I.G.y.blocks:Int), .int .i64 (I.G.y.nodes:Int), .int .i64 (I.G.y.data:Int)] 75);have L5:=heap_alloc_new C (.cells #[.int .i64 (I.G.y.log:Int), .int .i64 (I.G.y.home:Int), .int .i64 (I.G.y.blocks:Int), .int .i64 (I.G.y.nodes:Int), .int .i64 (I.G.y.data:Int)] 75);have s0:=(Sj.aw (aa.ah (λ_=>False) iq) (λh=>h)).c0;have fK:=bo.later iq;have dP:=(bd.trans (iq.mono bd.size));clear Jo bd bo Sj;go_wp2_with fail;generalize C.alloc (.cells #[.int .i64 (I.G.y.log:Int), .int .i64 (I.G.y.home:Int), .int .i64 (I.G.y.blocks:Int), .int .i64 (I.G.y.nodes:Int), .int .i64 (I.G.y.data:Int)] 75)=V3 at*;have HS:((λw':World=>w'.cell? (aD K.u 0)=some (pQ R.k)/\w'.cell? (aD C.heap.size 0)=some (iV (I.G.y.log:Int))/\w'.cell? (aD C.heap.size 1)=some (iV (I.G.y.home:Int))/\w'.cell? (aD C.heap.size 2)=some (iV (I.G.y.blocks:Int))/\w'.cell? (aD C.heap.size 3)=some (iV (I.G.y.nodes:Int))/\w'.cell? (aD C.heap.size 4)=some (iV (I.G.y.data:Int))/\w'.cell? (aD R.k 2)=some (iV (I.G.y.log:Int))/\w'.cell? (aD R.k 3)=some (iV (I.G.y.home:Int))/\w'.cell? (aD R.k 4)=some (iV (I.G.y.blocks:Int))/\w'.cell? (aD R.k 5)=some (iV (I.G.y.nodes:Int))/\w'.cell? (aD R.k 6)=some (iV (I.G.y.data:Int))) V3):=⟨s0,aM L5,bG L5,bK L5,fQ L5,gG L5,fK.c2,fK.c3,fK.c4,fK.c5,fK.c6⟩;clear fK iq L5 s0;go_region_held3 (λw'=>w'.cell? (aD K.u 0)=some (pQ R.k)/\w'.cell? (aD C.heap.size 0)=some (iV (I.G.y.log:Int))/\w'.cell? (aD C.heap.size 1)=some (iV (I.G.y.home:Int))/\w'.cell? (aD C.heap.size 2)=some (iV (I.G.y.blocks:Int))/\w'.cell? (aD C.heap.size 3)=some (iV (I.G.y.nodes:Int))/\w'.cell? (aD C.heap.size 4)=some (iV (I.G.y.data:Int))/\w'.cell? (aD R.k 2)=some (iV (I.G.y.log:Int))/\w'.cell? (aD R.k 3)=some (iV (I.G.y.home:Int))/\w'.cell? (aD R.k 4)=some (iV (I.G.y.blocks:Int))/\w'.cell? (aD R.k 5)=some (iV (I.G.y.nodes:Int))/\w'.cell? (aD R.k 6)=some (iV (I.G.y.data:Int))) (exact HS) (fail);go_wp2;go_ret;exact⟨by simp,ec.idle (fP.later dP.drew) U E h1 h2 hc (uG.trans (dP.drew.mono uG.size))⟩
end
end
section
section
variable {w w':World} {q:Nat} {F P F2 X O A:Nat->Prop} {p r s c N:Nat} {S:DS} {v1 v2 v3 v4:Value} {ss:List PI} {ts:List PT} {rs:List RI} {us:List RJ}
def EV (h:W5 w q F P F2 X O p r s S S c v1 v2 v3 v4 ss ts rs us) (hl:Lk S s N ss ts rs us) (C:∀g,(F g\/P g\/F2 g\/X g\/O g)->A g) (mm:∀g,A g->g<w.heap.size) (h1:ss.length<=N) (h2:ts.length<=N) (hc:c<=5000*N) (hN:N<=3999999990000) (Y U AA BB:Int) (da:Option Addr) (dn dc:Nat) (pa:Option Addr) (pn pc:Nat) (x y z:Int) (AG:U<=9223372036854775807) (EC:Y=3\/Y=10\/Y=11):
  Calls prog 27 #[pV q, .agg (j2 Y U AA BB da dn dc pa pn pc x y z)] w λe w'=>e= .returned (.bool true)/\ec w w' q A p r s N:=by
 obtain⟨W,hW⟩:=bQ (w.alloc (.cells (j2 Y U AA BB da dn dc pa pn pc x y z) 42));have EN:bW w W:=by rw [hW];exact(bi w.heap.size w).alloc (bS _) _
 have BX:W.heap[w.heap.size]? =some (.cells (j2 Y U AA BB da dn dc pa pn pc x y z) 42 (0,0)):=by rw [hW];exact heap_alloc_new _ _
 have Hu:W.heap.size=w.heap.size+1:=by rw [hW,World.size_alloc]
 have uf:¬A w.heap.size:=λo=>by have:=mm _ o;omega
 obtain⟨a3,c3,hv3⟩:=AE h.o1;have TB:=h.later EN;have d0:W.cell? (aD w.heap.size 0)=some (iV Y):=aM BX;have d1:W.cell? (aD w.heap.size 1)=some (iV U):=bG BX;have e4:=TB.c2;have tj:=λk=>AD (W.drewN k) ss.length U AG (by omega);obtain⟨HW,D,CW,MA⟩:=cO TB hl EN BX;rw [hv3] at e4;clear h hl TB EN BX;go_in;go_wp2_with fail;rw [<-hW];clear hW;go_quiet (first|(go_at_call 70;refine Calls.quiet_of_same (tj _)));rename_i nq _;have hq:bW W (W.drewN nq):=below_drewN (bi _ _) nq;have fP:=(HW.later hq);have uG:=(CW.trans (hq.mono (by omega)));have Yp:(W.drewN nq).heap.size=w.heap.size+1:=Hu;have UQ:=((hq.block w.heap.size (by omega)).trans MA);clear HW CW MA tj hq d0 d1 e4 Hu;generalize W.drewN nq=V at*;have dV0:V.cell? (aD w.heap.size 0)=some (iV Y):=aM UQ;have dV2:V.cell? (aD w.heap.size 2)=some (iV AA):=bK UQ;have e4:=fP.c2;have e5:=fP.c3;by_cases q0:ss.length=0
 .have fO:bk ss.length U= -1:=by unfold bk;rw [aG q0]
  rw [fO];go_wp2;go_ret;exact⟨rfl,ec.idle fP D C h1 h2 hc uG⟩
 .obtain⟨j,hj,Yw⟩:=TA (show 0<ss.length by omega) U;rw [Yw];have Zg:¬(j:Int)<0:=by omega
  have YN:(j:Int)<(ss.length:Int):=by omega
  obtain⟨I,H⟩:∃I,ss[j]? =some I:=⟨ss[j],List.getElem?_eq_getElem hj⟩;obtain⟨R,E⟩:∃R,rs[j]? =some R:=⟨rs[j]'(by rw [D.sl];exact hj),List.getElem?_eq_getElem _⟩;have Q:=D.sg j I R H E;obtain⟨g3,cp3,TC,t3⟩:=vP (i:=j) fP.o1 (by rw [Be,H];rfl);obtain⟨g4,cp4,TD,t4⟩:=vP (i:=j) fP.o2 (by rw [Be,E];rfl);rw [TC] at e4;rw [TD,D.sl] at e5;clear Yw q0;rcases EC with rfl|rfl|rfl
  .have Fk:=fP.under;by_cases hz:I.G.begin S=0
   .have VQ:=Ll hz;have vA:=(sL (fP.pw.ES H)).mono (λe w' h=>by unfold sK at h;rw [aB (λh=>h hz)] at h;exact h);have WC:=(λ(v:World) (Xk:List PI) (J:W5 v q F P F2 X O p r s S S c v1 v2 v3 v4 Xk ts rs us)=>(zQ (G:=I.G) J.rw.e (by rw [<-Q];exact(J.rw.jR E).st) (by rw [<-Q];exact(J.rw.jR E).lp) (J.nowAt D H E)).mono (λe w' h=>by unfold xY at h;rw [aB (λh=>h hz)] at h;exact h));clear hz;go_wp2_with fail;refine vA.mono ?_;rintro e v ⟨t,n,rfl,mO,Sj,Yo,Ah,sO,ln,aY⟩;obtain⟨_,_,_,⟨pq,pl,pm⟩,_⟩:=fP.pw.st I (gz H);have jZ:=fP.pw.ES H;have TP:it v F p s c I.q I.l I.m S {I.G with busy:=true}:=⟨jZ.d.aw aY (λg a e=>jZ.nq (e▸a)),ln,jZ.lp.aw aY (λe=>jZ.ql e.symm),jZ.ch.aw aY (λe=>jZ.qm e.symm),jZ.nq,jZ.nl,jZ.nm,jZ.ql,jZ.qm,jZ.lm,jZ.lk,jZ.bg,jZ.hs,jZ.kb⟩;have nU:=fP.pw.onS H (G':={I.G with busy:=true}) rfl (λg h=> .inl h) TP (aY.mono (λg e=> .inr (.inl e)));have oZ:aa (λg=>F g\/P g) V v:=aY.mono (λg e=> .inr (e▸pq));have io:=fP.prog nU oZ (λg h=> .inl h) (gg (f:=λI:PI=>pV I.q) H rfl) rfl;obtain⟨fy,fd,ig,HT2,ZX,Ai,ml⟩:=nw (WC v _ io) io oZ Ah sO (aq Ah) sO.lt;clear vA Ah sO ln aY jZ TP nU oZ io;go_wp2_with fail;refine fy.mono ?_;rintro e T ⟨u,rfl,hu3,abo,afK,aZ⟩;have uQ:=fd.rw.jR E;have hRk:=Fk _ (.inr (.inr (.inr (.inl uQ.xk))));have nV:=fd.rw.onS E (I':={R with G:={I.G with busy:=true},nv:=pV u}) rfl rfl (by rw [Q]) (fd.rw.e.aw aZ (λg a e=>fd.rw.fM g (e▸uQ.xk) a)) (by
     have a:=uQ;rw [Q] at a;exact⟨afK,a.lp.aw aZ (λe=>cY a.lp a.st (by decide) e),a.pl.aw aZ (λg e o=>a.pl.ne e a.st (by decide) o) (λg c ys o hr e=>hr.ne a.st (by decide) e),a.xk,a.xl,a.fM,λg o=>i5 (a.lt g o) aZ.size,a.lk,a.bg,a.hs,a.lh,a.ov,a.hm,a.kb,a.un⟩) rfl (aZ.mono (λg e=> .inr (.inl e))) (.inl rfl)
    have mT:aa (λg=>F2 g\/X g) v T:=aZ.mono (λg e=> .inr (e▸uQ.xk));have iG:=fd.doc nV mT (λg h=> .inl h) (λg h=> .inl h) (gg (f:=λI:RI=>pV I.k) E rfl) rfl;obtain⟨Iz,hul,z1,z2⟩:=cO ((aZ.block t Ai (λe=>by omega)).trans HT2) abo.lt ig.size aZ.size;have lQ:∀g,V.heap.size<=g->¬(F g\/P g\/F2 g\/X g\/O g):=λg a o=>by have:=Fk g o;omega
    obtain⟨g4',D2,V4,wq,Oj,xC,dW⟩:=iG.afr (iG.pw.aa8 (I:={I with G:={I.G with busy:=true}}) (List.getElem?_set_self hj) Iz (ZX.aw aZ (λe=>by omega)) (λo=>lQ t Sj (.inr (.inl o))) (λo=>lQ n mO (.inr (.inl o))) (λo=>lQ t Sj (.inl o)) (λo=>lQ n mO (.inl o))) (λg a o=>by
     rcases a with a|a|a
     .rcases o with o|o|o
      .exact iG.ad g (.inr a) (.inl o)
      .exact iG.ad g (.inr a) (.inr o)
      .exact iG.oa g o (.inr a)
     .exact lQ g (by omega) (.inr (.inr o))
     .exact lQ g (by omega) (.inr (.inr o))) (by omega)
    have hc4:=iG.c4;have q4:=gG Oj;have f4:=ae Oj 4;obtain⟨V5,hV5⟩:=bQ (V4.setCell ⟨q,4,none⟩ (.slice (some ⟨g4',0,none⟩) (ts.length+1) D2));have O7:V5.heap.size=V4.heap.size:=(by rw [hV5];simp);rw [<-hV5] at xC dW;have hrT:=xC.rw.aa8 (I:={R with G:={I.G with busy:=true},nv:=pV u}) (List.getElem?_set_self (by rw [D.sl];exact hj)) (abo.aw dW (λo=>lQ u (by omega) (.inr (.inr (.inr (.inr o)))))) (λo=>lQ u (by omega) (.inr (.inr (.inr (.inl o))))) (λo=>lQ u (by omega) (.inr (.inr (.inl o))));obtain⟨g5',NF,V6,nI,nN,Fi,jD⟩:=xC.afs hrT (λg a o=>by
     rcases a with a|a
     .rcases o with o|o|o
      .exact xC.ad g (.inl o) (.inr a)
      .exact xC.ad g (.inr o) (.inr a)
      .exact xC.od g o (.inr a)
     .rcases o with o|(o|o|o)|(o|o)
      .exact lQ g (by omega) (.inl o)
      .exact lQ g (by omega) (.inr (.inl o))
      .omega
      .omega
      .exact lQ g (by omega) (.inr (.inr (.inr (.inr o))))
      .omega) (by have:=D.tl;omega)
    have hc5:=xC.c5;have q5:=sb nN;have f5:=ae nN 5;rw [O7] at nI;rw [hV5] at nI hc5;have akK:=uG.size;have z4:=dW.size;have uJ:=((((aa.ah A uG).trans ig (λg a=> .inl (C g (by rcases a with a|a;exact .inl a;exact .inr (.inl a))))).trans mT (λg a=> .inl (C g (by rcases a with a|a;exact .inr (.inr (.inl a));exact .inr (.inr (.inr (.inl a))))))).trans dW (λg a=> .inl (C g (.inr (.inr (.inr (.inr a))))))).trans jD (λg a=>by
     rcases a with a|a
     .exact .inl (C g (.inr (.inr (.inr (.inr a)))))
     .exact .inr (by omega))
    have HF:(ec w (V6.setCell ⟨q,5,none⟩ (.slice (some ⟨g5',0,none⟩) (us.length+1) NF)) q A p r s N):=⟨λg=>A g\/w.heap.size<=g,⟨_,_,_,_,_,_,c,_,_,_,_,_,_,_,_,Fi,(D.begun (t:=t) (n:=n) (u:=u) (tv:= .slice none 0 0) H E VQ).more (by omega),λg a=>(by
     rcases a with a|(a|a|a)|a|(a|a)|((a|a)|a)
     .exact .inl (C g (.inl a))
     .exact .inl (C g (.inr (.inl a)))
     .exact .inr (by omega)
     .exact .inr (by omega)
     .exact .inl (C g (.inr (.inr (.inl a))))
     .exact .inl (C g (.inr (.inr (.inr (.inl a)))))
     .exact .inr (by omega)
     .exact .inl (C g (.inr (.inr (.inr (.inr a)))))
     .exact .inr (by omega)
     .exact .inr (by omega)),by rw [List.length_set];omega,by rw [ed];show ts.length+1<=_;omega,by omega⟩,uJ,λ_ h=>h⟩
    have GZ:=wq;have G0:=nI;clear fy abo afK aZ uQ nV mT iG Iz lQ wq Oj xC dW hrT nI nN Fi jD uJ;go_wp2_with (at_builtin;first|refine br rfl _ _ 34 rfl v3 (.slice (some (aD T.heap.size 0)) 1 1) _ rfl rfl GZ ?_|refine br rfl _ _ 35 rfl v4 (.slice (some (aD V4.heap.size 0)) 1 1) _ rfl rfl G0 ?_);go_wp2;go_ret;exact⟨rfl,HF⟩
   .have vA:=(sL (fP.pw.ES H)).mono (λe w' h=>by unfold sK at h;rw [aG hz] at h;exact h);have WC:=(λ(v:World) (Xk:List PI) (J:W5 v q F P F2 X O p r s S S c v1 v2 v3 v4 Xk ts rs us)=>(zQ (G:=I.G) J.rw.e (by rw [<-Q];exact(J.rw.jR E).st) (by rw [<-Q];exact(J.rw.jR E).lp) (J.nowAt D H E)).mono (λe w' h=>by unfold xY at h;rw [aG hz] at h;exact h));clear hz;generalize I.G.begin S=cd at*;go_wp2_with fail;refine fR vA λv _ bd=>?_;have io:=fP.later bd;have fy:=WC v _ io;have dP:=bd;have fd:=io;clear vA bd io;go_wp2_with fail;refine fR fy λT _ bF=>?_;have HF:=(ec.idle (fd.later bF) D C h1 h2 hc (uG.trans ((dP.trans (bF.mono dP.size)).mono uG.size)));clear fy bF;go_wp2;go_ret;exact⟨by simp,HF⟩
  .have Mj:=D.inv.p6;have HSy:=(λ(v:World) (S':DS) (J:W5 v q F P F2 X O p r s S' S c v1 v2 v3 v4 ss ts rs us)=>Ku J.rw.e (J.rw.jR E) (by omega));rw [Q] at HSy;go_wp2_with fail;refine(Oa (fP.pw.ES H) (by omega)).mono ?_;rintro e v ⟨rfl,ln,aY⟩;have nU:=fP.pw.lK (λg h=> .inl h) ln.d aY;have oZ:aa (λg=>F g\/P g) V v:=aY.mono (λg h=> .inl h);have io:=fP.prog nU oZ (λg h=> .inl h) rfl rfl;have fy:=HSy v _ io;have fd:=io;have ig:=oZ;clear ln aY nU oZ io;go_wp2_with fail;refine fR fy λT yq aZ=>?_;have nV:=fd.rw.lK (λg h=> .inl h) yq aZ (λM hM hd=>by
    obtain⟨a1,a2⟩:=O5 D.inv.ok I.G.L M.G.L hd;refine⟨a1,λb hb=>a2 _ ?_⟩;have:=(fd.rw.st M hM).hs;omega)
   have mT:aa (λg=>F2 g\/X g) v T:=aZ.mono (λg h=> .inl h);have iG:=fd.doc nV mT (λg h=> .inl h) (λg h=> .inl h) rfl rfl;have uJ:=((aa.ah A uG).trans ig (λg a=> .inl (C g (by rcases a with a|a;exact .inl a;exact .inr (.inl a))))).trans mT (λg a=> .inl (C g (by rcases a with a|a;exact .inr (.inr (.inl a));exact .inr (.inr (.inr (.inl a))))));have HF:(ec w T q A p r s N):=⟨A,⟨F,P,F2,X,O,_,c,v1,v2,v3,v4,_,_,_,_,iG,D.synced H,C,by omega,by omega,by omega⟩,uJ,λ_ h=> .inl h⟩;clear fy yq aZ nV mT iG uJ;go_wp2;go_ret;exact⟨by simp,HF⟩
  .obtain⟨Mj,dD,jZ,uQ,og⟩:=eK D.inv.p6 D.inv.pZ (fP.pw.ES H) (fP.rw.jR E) (D.cs R (gz E));have hi:(ss.map (λI=>I.G.L))[j]? =some I.G.L:=(by rw [Be,H];rfl);have Xj:∀q∈I.G.ov,I.G.y.home+q.1<s/\q.2.length=512/\Bytes q.2:=λx o=>by
    have a1:=jZ.kb x o;have a2:=jZ.hs;exact⟨by omega,(jZ.ch.len x o).2⟩
   have BO:I.G.L.f+2+I.G.L.n<=I.G.y.home:=(by have:=uQ.lh;rw [Q] at this;exact this);have fB:=λhu=>by
    obtain⟨hd,hb⟩:=Df hu;obtain⟨ha,hf⟩:=Lh hd;exact((D.inv.al I.G.L (gz hi) ha hf).1 hb).2
   have dL:=Is D.inv hi (λx o=>⟨(Xj x o).1,(Xj x o).2.1⟩);have X8:=mF I.G S s;have ET:=Iq (G:=I.G) (S:=S) (s:=s) (λx o=>(Xj x o).1) (by have:=jZ.hs;omega);have gW:=AI I.G S s;have nh:=CR jZ dD (by omega);have Z:=(λ(v:World) (F3:Nat->Prop) (S':DS) (c2:Nat) (Xk:List PI) (J:W5 v q F3 P F2 X O p r s S' S c2 v1 v2 v3 v4 Xk ts rs us)=>Al J.rw.e (J.rw.jR E) dD (by rw [Q];exact fB) (by omega) (by omega));have HI2:=D.inv.check hi jZ.bg Xj jZ.ch.small BO;have abn:=dL;unfold aak at Z;rw [Q] at Z;clear dL Xj BO fB uQ dD;generalize I.G.check S s=Ck at*;go_wp2_with fail;refine fR nh λv ln aY=>?_;obtain⟨_,_,_,⟨pq,pl,pm⟩,_⟩:=fP.pw.st I (gz H);have nU:=fP.pw.onS H (G':=Ck.2.2) X8 (λg h=>h) ln (aY.mono (λg a=>by rcases a with a|a|a;exact .inl a;exact .inr (.inr (.inl a));exact .inr (.inr (.inr a))));have oZ:aa (λg=>F g\/P g) V v:=aY.mono (λg a=>by rcases a with a|a|a;exact .inl a;exact .inr (a▸pl);exact .inr (a▸pm));have io:=fP.prog nU oZ (λg h=>h) (gg (f:=λI:PI=>pV I.q) H rfl) rfl;have fy:=Z v _ _ _ _ io;have fd:=io;have ig:=oZ;clear nh ln aY nU oZ io jZ;go_wp2_with fail;refine fy.mono ?_;rintro e T ⟨rfl,yq,⟨hm',vJ⟩,aZ⟩;have uQ:=fd.rw.jR E;have nV:=fd.rw.onS E (I':={R with G:=Ck.2.2,hm:=hm'}) rfl rfl (X8.trans (by rw [Q])) yq vJ rfl aZ (abn.imp id (λh n K hK dM=>by
    obtain⟨A,C⟩:∃A,ss[n]? =some A:=⟨ss[n]'(by rw [<-D.sl];exact(mL.1 hK).1),List.getElem?_eq_getElem _⟩;have:=h n A.G.L (by rw [Be,C];rfl) dM;rw [D.sg n A K C hK];exact this))
   have mT:aa (λg=>F2 g\/X g) v T:=aZ.mono (λg a=>by rcases a with a|a|a;exact .inl a;exact .inr (a▸uQ.xk);exact .inr (a▸uQ.xl));have iG:=fd.doc nV mT (λg h=>h) (λg h=> .inl h) (gg (f:=λI:RI=>pV I.k) E rfl) rfl;have MO:=D.akt (I':={I with G:=Ck.2.2}) (R':={R with G:=Ck.2.2,hm:=hm'}) (M:=N+2) H E rfl rfl gW rfl (by omega) (by rw [List.map_set];exact HI2.more (by omega)) ET;have uJ:=((aa.ah A uG).trans ig (λg a=> .inl (C g (by rcases a with a|a;exact .inl a;exact .inr (.inl a))))).trans mT (λg a=> .inl (C g (by rcases a with a|a;exact .inr (.inr (.inl a));exact .inr (.inr (.inr (.inl a))))));have eE:=uG.size;have jC:=ig.size;have HF:(ec w T q A p r s N):=⟨λg=>A g\/w.heap.size<=g,⟨more F V v,P,more F2 v T,X,O,_,c+2,v1,v2,v3,v4,_,_,_,_,iG,MO,λg a=>(by
    rcases a with (a|a)|a|(a|a)|a|a
    .exact .inl (C g (.inl a))
    .exact .inr (by omega)
    .exact .inl (C g (.inr (.inl a)))
    .exact .inl (C g (.inr (.inr (.inl a))))
    .exact .inr (by omega)
    .exact .inl (C g (.inr (.inr (.inr (.inl a)))))
    .exact .inl (C g (.inr (.inr (.inr (.inr a)))))),by rw [List.length_set];omega,by omega,by omega⟩,uJ,λ_ h=>h⟩
   clear fy yq vJ aZ nV mT iG MO uJ;go_wp2;go_ret;exact⟨by simp,HF⟩
end
end
section
def ec.from {w w':World} {q:Nat} {A:Nat->Prop} {p r s N:Nat} (h:ec W w' q A p r s N) (a:bW w W):ec w w' q A p r s N:=by
 obtain⟨A',b,c,d⟩:=h;exact⟨A',b,(aa.ah (λ_=>False) a).mono (λ_ h=>h.elim) |>.trans c (λ_ h=> .inl h),λg e=>(d g e).imp id (λh=>j3 a.size h)⟩
section
variable {w w':World} {q:Nat} {F P F2 X O A:Nat->Prop} {p r s c N:Nat} {S:DS} {v1 v2 v3 v4:Value} {ss:List PI} {ts:List PT} {rs:List RI} {us:List RJ}
def AN (a:Int) (h:W5 w q F P F2 X O p r s S S c v1 v2 v3 v4 ss ts rs us) (t:Lk S s N ss ts rs us) (D:∀g,(F g\/P g\/F2 g\/X g\/O g)->A g) (mm:∀g,A g->g<w.heap.size) (v:ss.length<=N) (C:ts.length<=N) (G:c<=5000*N) (E:N<=3999999990000) (b d f:Int) (i:Option Addr) (k j:Nat) (l:Option Addr) (n m:Nat) (x y z:Int) (AG:b<=9223372036854775807) (EC:a=3\/a=10\/a=11):
  Calls prog 9 #[pV q, .agg (j2 a b d f i k j l n m x y z)] w λe w'=>e= .returned (.bool true)/\ec w w' q A p r s N:=by
 have fO:=aJ w (.cells (j2 a b d f i k j l n m x y z) 42);have kZ:(w.alloc (.cells (j2 a b d f i k j l n m x y z) 42)).heap[w.heap.size]? =some (.cells (j2 a b d f i k j l n m x y z) 42 (0,0)):=heap_alloc_new _ _;have uf:¬A w.heap.size:=λI=>by have:=mm _ I;omega
 obtain⟨J,K,L,M,Q,R,T,U,W⟩:=iZ kZ;have me:=EV (h.later fO) t D (λg H=>i5 (mm g H) fO.size) v C G E a b d f i k j l n m x y z AG EC;have Bc:=fO;clear h fO kZ t;rcases EC with rfl|rfl|rfl <;>
 (go_in
  go_wp2_with fail;refine bM me λV o=>?_;have u:=(o.from Bc);clear me o;go_wp2;go_ret;exact⟨rfl,u⟩)
def nW (a:Int) (h:W5 w q F P F2 X O p r s S S c v1 v2 v3 v4 ss ts rs us) (u:Lk S s N ss ts rs us) (E:∀g,(F g\/P g\/F2 g\/X g\/O g)->A g) (mm:∀g,A g->g<w.heap.size) (C:ss.length<=N) (D:ts.length<=N) (H:c<=5000*N) (G:N<=3999999990000) (f j k:Int) (i:Option Addr) (b l:Nat) (m:Option Addr) (o n:Nat) (x y z:Int) (AG:f<=9223372036854775807) (d:List Int) (xq:∀W,aa A w W->Src W i b d) (xE:Bytes d) (DU:b<=140737488355328) (EC:a=4\/a=5\/a=6\/a=7\/a=8\/a=9):
  Calls prog 9 #[pV q, .agg (j2 a f j k i b l m o n x y z)] w λe w'=>e= .returned (.bool true)/\ec w w' q A p r s N:=by
 have fO:=aJ w (.cells (j2 a f j k i b l m o n x y z) 42);have kZ:(w.alloc (.cells (j2 a f j k i b l m o n x y z) 42)).heap[w.heap.size]? =some (.cells (j2 a f j k i b l m o n x y z) 42 (0,0)):=heap_alloc_new _ _;have uf:¬A w.heap.size:=λK=>by have:=mm _ K;omega
 obtain⟨L,M,Q,R,T,U,Y,Z,y8⟩:=iZ kZ;have me:=Dg (h.later fO) u E (λg I=>i5 (mm g I) fO.size) C D H G a f j k i b l m o n x y z AG d (λW J=>xq W ((aa.ah (λ_=>False) fO).mono (λ_ h=>h.elim) |>.trans J (λ_ h=> .inl h))) xE DU (by omega);have Bc:=fO;clear h fO kZ u xq xE;rcases EC with rfl|rfl|rfl|rfl|rfl|rfl <;>
 (go_in
  go_wp2_with fail;refine bM me λV t=>?_;have v:=(t.from Bc);clear me t;go_wp2;go_ret;exact⟨rfl,v⟩)
def EW (h:W5 w q F P F2 X O p r s S S c v1 v2 v3 v4 ss ts rs us) (t:Lk S s N ss ts rs us) (C:∀g,(F g\/P g\/F2 g\/X g\/O g)->A g) (mm:∀g,A g->g<w.heap.size) (u:ss.length<=N) (v:ts.length<=N) (G:c<=5000*N) (D:N<=3999999990000) (b i j:Int) (f:Option Addr) (a k:Nat) (l:Option Addr) (n m:Nat) (x y z:Int) (AG:b<=9223372036854775807) (d:List Int) (xq:∀W,aa A w W->Src W f a d) (xE:Bytes d) (DU:a<=140737488355328):
  Calls prog 9 #[pV q, .agg (j2 12 b i j f a k l n m x y z)] w λe w'=>e= .returned (.bool true)/\ec w w' q A p r s N:=by
 have fO:=aJ w (.cells (j2 12 b i j f a k l n m x y z) 42);have kZ:(w.alloc (.cells (j2 12 b i j f a k l n m x y z) 42)).heap[w.heap.size]? =some (.cells (j2 12 b i j f a k l n m x y z) 42 (0,0)):=heap_alloc_new _ _;have h0:=h.later fO;have uf:¬A w.heap.size:=λhx=>by have:=mm _ hx;omega
 have Lt:=λg o=>i5 (mm g o) fO.size;obtain⟨H,I,J,K,L,M,Q,R,T⟩:=iZ kZ;obtain⟨me,UR,Y,YH,Yc,Bc⟩:=jE (AF h0 t C Lt u v G D b i j f a k l n m x y z AG) h0 t kZ xq fO;clear h fO kZ t h0 xq;go_in;go_wp2_with fail;refine bM me λV ar=>?_;clear H I J K L M Q R T;obtain⟨H,I,J,K,L,M,Q,R,T⟩:=iZ ((ar.block w.heap.size (aq YH)).trans YH);have afL:=Dg (UR.later ar) Y C (λg o=>i5 (Lt g o) ar.size) u v G D 12 b i j f a k l n m x y z AG d (λW Z=>Yc W ((((aa.ah (λ_=>False) Bc).mono (λ_ h=>h.elim):aa A w _).trans (aa.ah (λ_=>False) ar) (λ_ h=>h.elim)).trans Z (λ_ h=> .inl h))) xE DU (by omega);have cQ:=(Bc.trans (ar.mono Bc.size));clear me ar;go_wp2_with fail;refine bM afL λV2 E=>?_;have U:=(E.from cQ);clear afL E;go_wp2;go_ret;exact⟨rfl,U⟩
def Lu (h:W5 w q F P F2 X O p r s S S c v1 v2 v3 v4 ss ts rs us) (n:Lk S s N ss ts rs us) (C:∀g,(F g\/P g\/F2 g\/X g\/O g)->A g) (mm:∀g,A g->g<w.heap.size) (u:ss.length<=N) (v:ts.length<=N) (E:c<=5000*N) (D:N<=3999999990000) (d a b:Int) (f:Option Addr) (j i:Nat) (k:Option Addr) (m l:Nat) (x y z:Int):
  Calls prog 9 #[pV q, .agg (j2 2 d a b f j i k m l x y z)] w λe w'=>e= .returned (.bool true)/\ec w w' q A p r s N:=by
 have fO:=aJ w (.cells (j2 2 d a b f j i k m l x y z) 42);have kZ:(w.alloc (.cells (j2 2 d a b f j i k m l x y z) 42)).heap[w.heap.size]? =some (.cells (j2 2 d a b f j i k m l x y z) 42 (0,0)):=heap_alloc_new _ _;have uf:¬A w.heap.size:=λH=>by have:=mm _ H;omega
 have Lt:=λg G=>i5 (mm g G) fO.size;obtain⟨J,K,L,M,Q,R,T,U,W⟩:=iZ kZ;have me:=abg (h.later fO) n C u v E D;have I:=n;have Bc:=fO;clear h fO kZ n;go_in;go_wp2_with fail;refine bM me λV o=>?_;have t:=(o.from Bc);clear me o;go_wp2;go_ret;exact⟨rfl,t⟩
def Lv (h:W5 w q F P F2 X O p r s S S c v1 v2 v3 v4 ss ts rs us) (o:Lk S s N ss ts rs us) (D:∀g,(F g\/P g\/F2 g\/X g\/O g)->A g) (mm:∀g,A g->g<w.heap.size) (H:ss.length<=N) (I:ts.length<=N) (K:c<=5000*N) (J:N<=3999999990000) (j f i:Int) (l:Option Addr) (n m:Nat) (t:Option Addr) (v u:Nat) (x y z:Int):
  Calls prog 9 #[pV q, .agg (j2 15 j f i l n m t v u x y z)] w λe w'=>e= .returned (.bool true)/\ec w w' q A p r s N:=by
 have fO:=aJ w (.cells (j2 15 j f i l n m t v u x y z) 42);have kZ:(w.alloc (.cells (j2 15 j f i l n m t v u x y z) 42)).heap[w.heap.size]? =some (.cells (j2 15 j f i l n m t v u x y z) 42 (0,0)):=heap_alloc_new _ _;have h0:=h.later fO;have uf:¬A w.heap.size:=λb=>by have:=mm _ b;omega
 have Lt:=λg C=>i5 (mm g C) fO.size;obtain⟨L,M,Q,R,T,U,W,Y,Z⟩:=iZ kZ;have Ml:=h0.pw.d.ok.hi;obtain⟨me,UR,G,Bc⟩:=cO (abb h0.pw.d h0.rw.e (λk a b=>h0.ad k (.inl a) (.inl b)) h0.box (λb=>h0.oa q h0.oq (.inl b)) (by have:=o.inv.p6;omega) o.rf (by omega)) h0 o fO;clear h fO kZ o h0;go_in;go_wp2_with fail;refine fR me λV hd a=>?_;have E:(ec w V q A p r s N):=⟨A,⟨_,_,_,_,_,_,c+s,_,_,_,_,_,_,_,_,UR.prog (UR.pw.lK (λg h=> .inl h) hd a) (a.mono (λg h=> .inl h)) (λg h=> .inl h) rfl rfl,G.more (by omega),D,by omega,by omega,by omega⟩,(aa.ah A Bc).trans a (λg C=> .inl (D g (.inl C))),λ_ h=> .inl h⟩;clear me hd a;go_wp2;go_ret;exact⟨rfl,E⟩
def Lw (h:W5 w q F P F2 X O p r s S S c v1 v2 v3 v4 ss ts rs us) (t:Lk S s N ss ts rs us) (C:∀g,(F g\/P g\/F2 g\/X g\/O g)->A g) (u:ss.length<=N) (v:ts.length<=N) (D:c<=5000*N) (a f b d:Int) (i:Option Addr) (k j:Nat) (l:Option Addr) (n m:Nat) (x y z:Int) (EC:a<1\/15<a):
  Calls prog 9 #[pV q, .agg (j2 a f b d i k j l n m x y z)] w λe w'=>e= .returned (.bool true)/\ec w w' q A p r s N:=by
 have fO:=aJ w (.cells (j2 a f b d i k j l n m x y z) 42);have kZ:(w.alloc (.cells (j2 a f b d i k j l n m x y z) 42)).heap[w.heap.size]? =some (.cells (j2 a f b d i k j l n m x y z) 42 (0,0)):=heap_alloc_new _ _;have H:=(iZ kZ).1;have o:=(ec.idle (h.later fO) t C u v D fO);clear h t fO kZ;by_cases E:a<1
 .go_in;go_wp2;go_ret;exact⟨rfl,o⟩
 .have G:=EC.resolve_left E;go_in;go_wp2;go_ret;exact⟨rfl,o⟩
end
end
section
def Lx {S:DS} (x:Int) (rs:List RI):TK S (S.lay x) rs:=λR _ hd=>by
 unfold DS.lay at*;split at hd
 .rename_i h0;rw [aG h0];exact⟨hd,λ_ _=>rfl⟩
 .rename_i h0;rw [aB h0];refine⟨?_,λ_ _=>rfl⟩;unfold LG.dead;rw [Bool.or_eq_false_iff];refine⟨by rw [fJ];exact h0,?_⟩;have a:R.G.L.life=S.life:=(Lh hd).1;rw [a];simp
section
variable {w w':World} {q:Nat} {F P F2 X O A:Nat->Prop} {p r s c N:Nat} {S:DS} {v1 v2 v3 v4:Value} {ss:List PI} {ts:List PT} {rs:List RI} {us:List RJ}
def Ly (h:W5 w q F P F2 X O p r s S S c v1 v2 v3 v4 ss ts rs us) (K:Lk S s N ss ts rs us) (m:∀g,(F g\/P g\/F2 g\/X g\/O g)->A g) (mm:∀g,A g->g<w.heap.size) (h1:ss.length<=N) (h2:ts.length<=N) (hc:c<=5000*N) (U:N<=3999999990000) (i a f:Int) (j:Option Addr) (l k:Nat) (u:Option Addr) (C v:Nat) (x y z:Int) (n:a<=9223372036854775807):
  Calls prog 9 #[pV q, .agg (j2 13 i a f j l k u C v x y z)] w λe w'=>e= .returned (.bool true)/\ec w w' q A p r s N:=by
 have fO:=aJ w (.cells (j2 13 i a f j l k u C v x y z) 42);have kZ:(w.alloc (.cells (j2 13 i a f j l k u C v x y z) 42)).heap[w.heap.size]? =some (.cells (j2 13 i a f j l k u C v x y z) 42 (0,0)):=heap_alloc_new _ _;have h0:=h.later fO;have uf:¬A w.heap.size:=λt=>by have:=mm _ t;omega
 have Lt:=λg o=>i5 (mm g o) fO.size;obtain⟨y0,Y,Z,y3,y4,y5,y6,y7,y8⟩:=iZ kZ;obtain⟨J,W,UR,G,YH,eE,Bc⟩:=nw h0.c0 h0.c1 h0 K kZ (aq kZ) fO;clear h fO kZ K h0 Y y3 y4 y5 y6 y7 y8;go_in;go_wp2_with fail;generalize (w.alloc (.cells (j2 13 i a f j l k u C v x y z) 42))=I at*;have kt:=ai (bi I.heap.size I);have b:=UR.later kt;have L:=B.aft b.pw.d a n;have Lq:=b;have sP:=kt;clear kt b;go_region_held3 (λw'=>w'.cell? (aD q 0)=some (pV p)/\w'.cell? (aD w.heap.size 2)=some (iV a))
  (first|exact⟨J,Z⟩|exact⟨PJ,D⟩)
    ((go_at_call 21;refine L.mono ?_;rintro e H ⟨rfl,cI,aY⟩;have io:=Lq.prog (Lq.pw.lK (λg h=> .inl h) cI aY) (aY.mono (λg h=> .inl h)) (λg h=> .inl h) rfl rfl;have PJ:=io.c0;have mO:=(aY.block w.heap.size eE (λt=>uf (m _ (.inl t)))).trans ((sP.block w.heap.size eE).trans YH);have D:=bK mO))
 obtain⟨Iw,fd,E,ig,jC,xK⟩:=jE io.c1 io mO aY (aq mO) (ai (bi H.heap.size H));have AO:=io.later xK;have Q:=Rl AO.rw.e a n;have IB:=AO;have Lz:=xK;clear L cI aY io mO J W PJ xK AO;go_wp2_with fail;go_region_held3 (λw'=>w'.cell? (aD q 1)=some (pV r)/\w'.cell? (aD w.heap.size 2)=some (iV a))
  (first|exact⟨Iw,D⟩|exact⟨TQ,akR⟩)
    ((go_at_call 22;refine Q.mono ?_;rintro e T ⟨rfl,yq,aZ⟩;have iG:=IB.doc (IB.rw.lK (λg h=> .inl h) yq aZ (Lx a rs)) (aZ.mono (λg h=> .inl h)) (λg h=> .inl h) (λg h=> .inl h) rfl rfl;have TQ:=iG.c1;have xU:=(aZ.block w.heap.size jC (λt=>uf (m _ (.inr (.inr (.inl t)))))).trans ((Lz.block w.heap.size jC).trans E);have akR:=bK xU))
 have R:(ec w T q A p r s N):=⟨A,⟨_,_,_,_,_,_,c,_,_,_,_,_,_,_,_,iG,G.TE (M:=N+2) (by omega) ((G.inv.lay a iG.pw.d.ok).more (by omega)) (aaZ S a),m,by omega,by omega,by omega⟩,((((((aa.ah A Bc).trans (aa.ah (λ_=>False) sP) (λ_ h=>h.elim)).trans ig (λg o=> .inl (m g (.inl o)))).trans (aa.ah (λ_=>False) Lz) (λ_ h=>h.elim))).trans aZ (λg o=> .inl (m g (.inr (.inr (.inl o)))))),λ_ h=> .inl h⟩;clear Q yq aZ iG xU;go_wp2;go_ret;exact⟨rfl,R⟩
def IC (h:W5 w q F P F2 X O p r s S S c v1 v2 v3 v4 ss ts rs us) (H:Lk S s N ss ts rs us) (i:∀g,(F g\/P g\/F2 g\/X g\/O g)->A g) (mm:∀g,A g->g<w.heap.size) (h1:ss.length<=N) (h2:ts.length<=N) (hc:c<=5000*N) (hN:N<=3999999990000) (v m n:Int) (C:Option Addr) (E D:Nat) (f:Option Addr) (b j:Nat) (x y z:Int) (l:List P3) (I:∀W,aa A w W->kX W f b l) (nA:24*b<=140737488355328):
  Calls prog 9 #[pV q, .agg (j2 14 v m n C E D f b j x y z)] w λe w'=>e= .returned (.bool true)/\ec w w' q A p r s N:=by
 have fO:=aJ w (.cells (j2 14 v m n C E D f b j x y z) 42);have kZ:(w.alloc (.cells (j2 14 v m n C E D f b j x y z) 42)).heap[w.heap.size]? =some (.cells (j2 14 v m n C E D f b j x y z) 42 (0,0)):=heap_alloc_new _ _;have h0:=h.later fO;have uf:¬A w.heap.size:=λk=>by have:=mm _ k;omega
 have Lt:=λg a=>i5 (mm g a) fO.size;obtain⟨y0,y1,y2,y3,y4,y5,y6,y7,y8⟩:=iZ kZ;obtain⟨Y,c1,UR,L,YH,t,R,Mj⟩:=xm h0.c0 h0.c1 h0 H kZ I h0.under H.inv.p6;obtain⟨wl1,_⟩:=vQ H.inv.l0 H.inv.lt hN;have yw:S.life<(S.iy s l).life:=by show S.life<wrap64 (S.life+1);omega
 have eE:=aq kZ;have Bc:=fO;clear h fO kZ H h0 I;go_in;go_wp2_with fail;generalize (w.alloc (.cells (j2 14 v m n C E D f b j x y z) 42))=u at*;have kt:=ai (bi u.heap.size u);have EC:=(aa.ah A Bc).trans (aa.ah (λ_=>False) kt) (λ_ h=>h.elim);obtain⟨Z,Lq,sP,K⟩:=cO (M3 f b j l u.drew nA (t _ EC)) (UR.later kt) kt EC;have hzd:u.drew.heap.size=u.heap.size:=rfl;clear kt EC;go_region_held3 (λw'=>w'.cell? (aD q 0)=some (pV p)/\w'.cell? (aD w.heap.size 5)=some (.slice f b j))
  (first|exact⟨Y,y5⟩|exact⟨PJ,J⟩|exact⟨afN,afO⟩)
  (first
   |(go_at_call 24;refine Z.mono ?_;rintro e V1 ⟨g,rfl,a,afP,ar⟩;have KU:=Lq.later ar;have PJ:=KU.c0;have jk:=(ar.block w.heap.size eE).trans ((sP.block w.heap.size eE).trans YH);have J:=sb jk;have G:¬F g:=λk=>by have:=R g (.inl k);omega)
   |(go_at_call 23;refine(B.ZJ KU.pw.d (by omega) (some (aD g 0)) b b l afP (by omega) (λx e=>by cases e;exact G)).mono ?_;rintro e U ⟨rfl,cI,aY⟩;have io:=KU.prog (KU.pw.lK (λg h=> .inl h) cI aY) (aY.mono (λg h=> .inl h)) (λg h=> .inl h) rfl rfl;have afN:=io.c0;have mO:=(aY.block w.heap.size (aq jk) (λk=>uf (i _ (.inl k)))).trans jk;have afO:=sb mO))
 have Iw:=io.c1;have jC:=aq mO;have xK:=ai (bi U.heap.size U);have B2:=((K.trans (aa.ah (λ_=>False) ar) (λ_ h=>h.elim)).trans aY (λg a=> .inl (i g (.inl a)))).trans (aa.ah (λ_=>False) xK) (λ_ h=>h.elim);have AO:=io.later xK;obtain⟨k2,IB,Lz,Q,o⟩:=eK (Kj AO.rw.e (by omega) f b j l (t _ B2) (by omega)) AO xK mO B2;clear Z KU ar afP cI aY io jk mO Y c1 PJ afN y5 J xK AO B2 G;go_wp2_with fail;go_region_held3 (λw'=>w'.cell? (aD q 1)=some (pV r)/\w'.cell? (aD w.heap.size 5)=some (.slice f b j))
  (first|exact⟨Iw,afO⟩|exact⟨TQ,T⟩)
    ((go_at_call 25;refine k2.mono ?_;rintro e V3 ⟨rfl,yq,aZ⟩;have iG:=IB.doc (IB.rw.lK (λg h=>h) yq aZ (L.sS (.inr yw))) (aZ.mono (λg h=> .inl h)) (λg h=>h) (λg h=> .inl h) rfl rfl;have TQ:=iG.c1;have xU:=(aZ.block w.heap.size jC (λk=>uf (i _ (.inr (.inr (.inl k)))))).trans ((Lz.block w.heap.size jC).trans Q);have T:=sb xU))
 have uJ:=o.trans aZ (λg a=> .inl (i g (.inr (.inr (.inl a)))));have zA:=o.size;have HF:(ec w V3 q A p r s N):=⟨λg=>A g\/w.heap.size<=g,⟨_,_,_,_,_,_,c,_,_,_,_,_,_,_,_,iG,L.TE (M:=N+2) (by omega) ((L.inv.iy (by omega) l iG.pw.d.ok).more (by omega)) rfl,λg a=>(by
  rcases a with a|a|(a|a)|a|a
  .exact .inl (i g (.inl a))
  .exact .inl (i g (.inr (.inl a)))
  .exact .inl (i g (.inr (.inr (.inl a))))
  .exact .inr (by omega)
  .exact .inl (i g (.inr (.inr (.inr (.inl a)))))
  .exact .inl (i g (.inr (.inr (.inr (.inr a)))))),by omega,by omega,by omega⟩,uJ,λ_ h=>h⟩
 clear k2 yq aZ iG xU uJ;go_wp2;go_ret;exact⟨rfl,HF⟩
def EX (h:W5 w q F P F2 X O p r s S S c v1 v2 v3 v4 ss ts rs us) (f:Lk S s N ss ts rs us) (b:∀g,(F g\/P g\/F2 g\/X g\/O g)->A g) (mm:∀g,A g->g<w.heap.size) (h1:ss.length<=N) (h2:ts.length<=N) (hc:c<=5000*N) (hN:N<=3999999990000) (m j k:Int) (n:Option Addr) (t o:Nat) (v:Option Addr) (D C:Nat) (x y z:Int):
  Calls prog 9 #[pV q, .agg (j2 1 m j k n t o v D C x y z)] w λe w'=>e= .returned (.bool true)/\ec w w' q A p r s N:=by
 have fO:=aJ w (.cells (j2 1 m j k n t o v D C x y z) 42);have kZ:(w.alloc (.cells (j2 1 m j k n t o v D C x y z) 42)).heap[w.heap.size]? =some (.cells (j2 1 m j k n t o v D C x y z) 42 (0,0)):=heap_alloc_new _ _;have h0:=h.later fO;have uf:¬A w.heap.size:=λu=>by have:=mm _ u;omega
 have Lt:=λg a=>i5 (mm g a) fO.size;obtain⟨y0,y1,y2,y3,y4,y5,y6,y7,y8⟩:=iZ kZ;obtain⟨T,c1,UR,HL,YH,Mj,l1,l2⟩:=xm h0.c0 h0.c1 h0 f kZ f.inv.p6 (B.wm h0.pw.d) (nK h0.rw.e);obtain⟨wl1,wl2⟩:=vQ f.inv.l0 f.inv.lt hN;have Y:(bY S s x y z).2=S\/S.life<(bY S s x y z).2.life:=(Lo S s x y z).imp id (λh=>by rcases h with h|h <;> omega);have Q:=(f.sS Y);obtain⟨K,ET,Fn,eE,Bc⟩:=eK ((f.inv.ae6 (by omega) x y z)) (Lc S s x y z) f.inv.pZ (aq kZ) fO;clear h fO kZ f h0 Y;go_in;go_wp2_with fail;refine bM l1 λw1 bO=>?_;have jO:=bO.symm;clear bO l1;subst jO;go_wp2_with fail;refine bM l2 λw1 bO=>?_;have jO:=bO.symm;clear bO l2;subst jO;go_wp2_with fail;generalize (w.alloc (.cells (j2 1 m j k n t o v D C x y z) 42))=J at*;have kt:=ai (bi J.heap.size J);have i:=UR.later kt;have Z:=wK i.pw.d Fn x y z (by omega);have Lq:=i;have sP:=kt;have l:=(λ(V:World) (he:aC V F2 r s S)=>EM he Fn x y z (by omega));unfold te at l;clear kt i;generalize bY S s x y z=Fm at*;go_region_held3 (λw'=>w'.cell? (aD q 0)=some (pV p)/\w'.cell? (aD w.heap.size 6)=some (iV x)/\w'.cell? (aD w.heap.size 7)=some (iV y)/\w'.cell? (aD w.heap.size 8)=some (iV z))
  (first|exact⟨T,y6,y7,y8⟩|exact⟨PJ,E,G,H⟩)
    ((go_at_call 12;refine Z.mono ?_;rintro e I ⟨rfl,cI,aY⟩;have io:=Lq.prog (Lq.pw.lK (λg h=>h) cI aY) (aY.mono (λg h=> .inl h)) (λg h=>h) rfl rfl;have PJ:=io.c0;have mO:=(aY.block w.heap.size eE (λu=>uf (b _ (.inl u)))).trans ((sP.block w.heap.size eE).trans YH);have E:=wZ mO;have G:=rt mO;have H:=Dp mO))
 obtain⟨Iw,fd,L,ig,jC,xK⟩:=jE io.c1 io mO aY (aq mO) (ai (bi I.heap.size I));have AO:=io.later xK;have k2:=l _ AO.rw.e;have IB:=AO;have Lz:=xK;clear Z cI aY io mO T c1 PJ xK AO;go_wp2_with fail;go_region_held3 (λw'=>w'.cell? (aD q 1)=some (pV r)/\w'.cell? (aD w.heap.size 6)=some (iV x)/\w'.cell? (aD w.heap.size 7)=some (iV y)/\w'.cell? (aD w.heap.size 8)=some (iV z))
  (first|exact⟨Iw,E,G,H⟩|exact⟨TQ,akS,akT,akU⟩)
    ((go_at_call 19;refine k2.mono ?_;rintro e R ⟨rfl,yq,aZ⟩;have iG:=IB.doc (IB.rw.lK (λg h=>h) yq aZ Q) (aZ.mono (λg h=> .inl h)) (λg h=>h) (λg h=> .inl h) rfl rfl;have TQ:=iG.c1;have xU:=(aZ.block w.heap.size jC (λu=>uf (b _ (.inr (.inr (.inl u)))))).trans ((Lz.block w.heap.size jC).trans L);have akS:=wZ xU;have akT:=rt xU;have akU:=Dp xU))
 have MO:=HL.TE (M:=N+2) (by omega) K ET;have abq:=ai (bi R.heap.size R);have uI:=iG.later abq;have z0:=Bc.size;have z2:=ig.size;have zd:J.drew.heap.size=J.heap.size:=rfl;have zd2:I.drew.heap.size=I.heap.size:=rfl;have uJ:=((((((aa.ah A Bc).trans (aa.ah (λ_=>False) sP) (λ_ h=>h.elim)).trans ig (λg a=> .inl (b g (.inl a)))).trans (aa.ah (λ_=>False) Lz) (λ_ h=>h.elim))).trans aZ (λg a=> .inl (b g (.inr (.inr (.inl a)))))).trans (aa.ah (λ_=>False) abq) (λ_ h=>h.elim);have HF:(ec w R.drew q A p r s N):=⟨λg=>A g\/w.heap.size<=g,⟨_,_,_,_,_,_,c+2,_,_,_,_,_,_,_,_,uI,MO,λg a=>(by
  rcases a with (a|a)|a|(a|a)|a|a
  .exact .inl (b g (.inl a))
  .exact .inr (by omega)
  .exact .inl (b g (.inr (.inl a)))
  .exact .inl (b g (.inr (.inr (.inl a))))
  .exact .inr (by omega)
  .exact .inl (b g (.inr (.inr (.inr (.inl a)))))
  .exact .inl (b g (.inr (.inr (.inr (.inr a)))))),by omega,by omega,by omega⟩,uJ,λ_ h=>h⟩
 obtain⟨l3,l4,U,W⟩:=cO (B.wm uI.pw.d) (nK uI.rw.e) iG.c0 iG.c1;clear k2 yq aZ iG uI abq xU MO uJ;go_wp2_with fail;go_region_held3 (λw'=>w'.cell? (aD q 0)=some (pV p)/\w'.cell? (aD q 1)=some (pV r))
  (exact⟨U,W⟩)
  (first
   |(go_at_call 17;refine l3.mono ?_;rintro e w4 ⟨rfl,pk⟩;have EJ:=pk.symm;clear pk;subst EJ)
   |(go_at_call 18;refine l4.mono ?_;rintro e w5 ⟨rfl,I5⟩;have Lj:=I5.symm;clear I5;subst Lj))
 clear l3 l4 U W;go_wp2;go_ret;exact⟨by simp,HF⟩
end
end
section
section
variable {w w':World} {q:Nat} {F P F2 X O A:Nat->Prop} {p r s c N:Nat} {S:DS} {v1 v2 v3 v4:Value} {ss:List PI} {ts:List PT} {rs:List RI} {us:List RJ}
def Pa (h:W5 w q F P F2 X O p r s S S c v1 v2 v3 v4 ss ts rs us) (E:Lk S s N ss ts rs us) (C:∀g,(F g\/P g\/F2 g\/X g\/O g)->A g) (mm:∀g,A g->g<w.heap.size) (u:ss.length<=N) (v:ts.length<=N) (D:c<=5000*N) (G:N<=3999999990000) (b j i n:Int) (l:Option Addr) (a o:Nat) (m:Option Addr) (f t:Nat) (x y z:Int) (AG:j<=9223372036854775807) (H:i<=9223372036854775807) (d:List Int) (xq:∀W,aa A w W->Src W l a d) (xE:Bytes d) (DU:a<=140737488355328) (J:List P3) (I:∀W,aa A w W->kX W m f J) (nA:24*f<=140737488355328):
  Calls prog 9 #[pV q, .agg (j2 b j i n l a o m f t x y z)] w λe w'=>e= .returned (.bool true)/\ec w w' q A p r s N:=by
 by_cases k:b<1\/15<b
 .exact Lw h E C u v D b j i n l a o m f t x y z k
 .have K:b=1\/b=2\/b=3\/b=4\/b=5\/b=6\/b=7\/b=8\/b=9\/b=10\/b=11\/b=12\/b=13\/b=14\/b=15:=by omega
  rcases K with rfl|rfl|rfl|rfl|rfl|rfl|rfl|rfl|rfl|rfl|rfl|rfl|rfl|rfl|rfl
  .exact EX h E C mm u v D G j i n l a o m f t x y z
  .exact Lu h E C mm u v D G j i n l a o m f t x y z
  .exact AN 3 h E C mm u v D G j i n l a o m f t x y z AG (by omega)
  .exact nW 4 h E C mm u v D G j i n l a o m f t x y z AG d xq xE DU (by omega)
  .exact nW 5 h E C mm u v D G j i n l a o m f t x y z AG d xq xE DU (by omega)
  .exact nW 6 h E C mm u v D G j i n l a o m f t x y z AG d xq xE DU (by omega)
  .exact nW 7 h E C mm u v D G j i n l a o m f t x y z AG d xq xE DU (by omega)
  .exact nW 8 h E C mm u v D G j i n l a o m f t x y z AG d xq xE DU (by omega)
  .exact nW 9 h E C mm u v D G j i n l a o m f t x y z AG d xq xE DU (by omega)
  .exact AN 10 h E C mm u v D G j i n l a o m f t x y z AG (by omega)
  .exact AN 11 h E C mm u v D G j i n l a o m f t x y z AG (by omega)
  .exact EW h E C mm u v D G j i n l a o m f t x y z AG d xq xE DU
  .exact Ly h E C mm u v D G j i n l a o m f t x y z H
  .exact IC h E C mm u v D G j i n l a o m f t x y z J I nA
  .exact Lv h E C mm u v D G j i n l a o m f t x y z
end
end
end Go.Proofs.YtcpdggdfihjhoabGreat
