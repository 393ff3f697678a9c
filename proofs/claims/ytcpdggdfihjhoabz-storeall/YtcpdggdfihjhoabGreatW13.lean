import Derived.Test.YtcpdggdfihjhoabGreatW01
import Derived.Test.YtcpdggdfihjhoabGreatW05
import Derived.Test.YtcpdggdfihjhoabGreatW12
import Derived.Deep.OwnRows
import Derived.ProofKit
import Derived.OpenShut
import Derived.ShutString
import Derived.ChangeOld
import Derived.SizedLaws
import Derived.Deep.Slices
set_option maxRecDepth 20000
set_option maxHeartbeats 8000000
set_option linter.all false
namespace Go.Proofs.YtcpdggdfihjhoabGreat
open Go.Proofs.Tryz
open Go.RowKit Go.Maps
variable {S:DS} {A ag:Int} {L:LG} {d im l:List Int} {N a c dc dn f fuel j n p pn q s:Nat} {F:Nat->Prop} {da pa:Option Addr} {G:SG} {v:Value} {w w':World}
section
section
variable {S:DS} {s:Nat}
def AP {S:DS} (h:S.fuse= -1):S.gq.fuse= -1:=by
 unfold DS.gq;simp only;rw [aB (by omega)];exact h
def rp {S:DS} (h:S.fuse= -1) (s:Nat) (x:Int) (n:Nat) (l:List Int):(S.wr s x n l).2.fuse= -1:=by
 unfold DS.wr;split
 .exact h
 .split
  .exact h
  .split
   .exact h
   .exact AP h
def rq {S:DS} (h:S.fuse= -1) (s:Nat):(S.fl s).2.fuse= -1:=by
 unfold DS.fl;split
 .exact h
 .exact AP h
def oS {S:DS} (h:S.fuse= -1) {g:Nat->DS->Int×DS} (a:∀k T,T.fuse= -1->(g k T).2.fuse= -1):∀n,(cB S g n).2.fuse= -1
 |0=>h
 |n+1=>by
  unfold cB;split
  .exact oS h a n
  .exact a n _ (oS h a n)
def LA {S:DS} (h:S.fuse= -1) (s f n:Nat):(cN S s f n).2.fuse= -1:=by
 have a:(bE S s f (n+2)).2.fuse= -1:=oS h (λk T b=>rp b _ _ _ _) _;unfold cN;split
 .exact a
 .exact rq a s
def Dh {S:DS} (h:S.fuse= -1) (s f:Nat) (num:Int):(cZ S s f num).2.fuse= -1:=by
 unfold cZ;split
 .exact h
 .split
  .exact h
  .split
   .exact rp h _ _ _ _
   .exact rq (rp h _ _ _ _) _
def ID {r:List Int} (c:l.length=512) (d:r.length=512) (a:1<=N) (b:N<9223372036854775808) (h:(am l r).2.1<N):
    (am (yN l r (aP l r (N:Int) []).1 (aP l r (N:Int) []).2.1).1 (yN l r (aP l r (N:Int) []).1 (aP l r (N:Int) []).2.1).2).2=(N, [],0):=by
 have e:(aP l r (N:Int) [])=if (am l r).2.2.2=0/\(am l r).1=0 then (1,bh (cG (r.getD 0 0) (r.getD 511 0)) (aS N ++ []),0) else (0,bh (cG (l.getD 0 0) (l.getD 511 0)) (aS N ++ []),0):=by
  unfold aP;rw [aB (by omega),aB (by omega),aB (by simp)];simp only;rw [aB (by omega),Int.toNat_natCast]
 rw [e];by_cases q:(am l r).2.2.2=0/\(am l r).1=0
 .rw [aG q];have:=tF (data:= []) c d b a (by simp) h (t:=cG (r.getD 0 0) (r.getD 511 0)) (by have:=gu (r.getD 0 0) (r.getD 511 0);omega) 1 (by rw [aG q]);simp only;rw [this]
 .rw [aB q];have:=tF (data:= []) c d b a (by simp) h (t:=cG (l.getD 0 0) (l.getD 511 0)) (by have:=gu (l.getD 0 0) (l.getD 511 0);omega) 0 (by rw [aB q]);simp only;rw [this]
def LB {S:DS} {s:Nat} (h:S.Ok s) (c:f+1<s) (b:1<=N) (g:N<9223372036854775808) (bq:S.num f<N) (h0:(cZ S s f (N:Int)).1=0):(am ((cZ S s f (N:Int)).2.now f) ((cZ S s f (N:Int)).2.now (f+1))).2=(N, [],0)/\∀j,j<s->j≠f->j≠f+1->(cZ S s f (N:Int)).2.now j=S.now j:=by
 have d:=bu h f (by omega);have e:=bu h (f+1) c;have du:=iD d e b bq;have a:=ID d e b g bq;have mR:=fU (S.now f) (S.now (f+1)) (N:Int) [];have Fj:=kN (S.now f) (S.now (f+1)) (N:Int) [] du;unfold cZ at*;split at h0
 .simp at h0
 .rename_i BD;rw [aB BD];rw [aB (by omega)] at h0⊢;generalize aP (S.now f) (S.now (f+1)) (N:Int) []=Y at*;rw [show (f:Int)+(Y.1:Int)=((f+Y.1:Nat):Int) by omega] at h0⊢;have VJ:(S.wr s ((f+Y.1:Nat):Int) 512 Y.2.1).1=0:=by rw [oW BD (by omega)]
  rw [aB (by omega)] at h0⊢;have NL:=tX h BD (show f+Y.1<s by omega) Fj;refine⟨?_,λj i l m=>?_⟩
  .rw [eY NL (by omega),eY NL c,jK BD (by omega),jK BD (by omega)];unfold yN at a;by_cases q:Y.1=0
   .rw [q] at a⊢;rw [aG (by omega),aB (by omega)];rw [aG rfl] at a;exact a
   .have k:Y.1=1:=(by omega);rw [k] at a⊢;rw [aB (by omega),aG rfl];rw [aB (by omega)] at a;exact a
  .rw [eY NL i,jK BD (by omega),aB (by omega)]
def IE:(aX (zs 512)).2≠0\/(aX (zs 512)).1.length<12:=by
 have a:dJ (zs 512)= []:=by
  unfold dJ;rw [show dN (zs 512)=0 from by unfold dN;rw [show (zs 512).getD 1 0=0 from rfl,show (zs 512).getD 2 0=0 from rfl];rfl];exact List.take_zero
 unfold aX;rw [aB (by rw [bH];omega)];unfold fA;rw [a];split
 .left;show (30:Nat)≠0;omega
 .rename_i b h;right;split at h
  .cases h;show (0:Nat)<12;omega
  .cases h
def wY:(dj (zs 512)).d= []/\(dj (zs 512)).e=0:=by
 unfold dj;rw [aG IE];exact⟨rfl,rfl⟩
def Di {R:Nat->PC}:∀k,(∀i,i<k->(R i).e=0)->gN R k=0
 |0,_=>rfl
 |k+1,h=>by
  show (if (R k).e<=1073741824 then max (gN R k) (R k).e else gN R k)=0;rw [h k (by omega),Di k (λi a=>h i (by omega))];rfl
def TR {S:DS} {s:Nat} (h:S.Ok s) (i:f+2+n<=s) (h0:(cN S s f n).1=0):∀j,j<n+2->(cN S s f n).2.now (f+j)=zs 512:=λj c=>by
 obtain⟨d,a,g,b⟩:=lF (f:=f) h (n:=n+2) (by omega) (n+2) (bS _);unfold cN at*;by_cases e:(bE S s f (n+2)).1=0
 .rw [aB (by omega),eY a (by omega)];exact b e j c
 .rw [aG e] at h0;exact absurd h0 e
def IQ (h:S.Ok s) (k:S.fuse= -1) {b:Nat} (oE:a+2+b<=s) (ar:18<=b) (bd:b<=256):
    (cD S s a b).1=0/\(cD S s a b).2.fuse= -1/\b9 (cD S s a b).2 a=(1,0,0)/\∀j,j<b->(cD S s a b).2.now (a+2+j)=zs 512:=by
 have Y7:cw S s (a:Int) (b:Int)=0:=by
  unfold cw;rw [aB (by omega),aB (by omega),aB (by omega),aB (by omega)]
 unfold cD;rw [aB (by omega)];simp only [Int.toNat_natCast];have du:S.take.Ok s:=⟨h.len,h.lo,h.hi,h.puts,h.fuse⟩;obtain⟨t,c,o,p⟩:=kP (f:=a) (n:=b) du oE;have A4:=LA (S:=S.take) k s a b;have h0:=Decidable.byContradiction (λe=>by have:=o e;omega);have m:=TR du oE h0;obtain⟨g,u⟩:=p h0;rw [aB (by omega)];have l:=iD (bu c a (by omega)) (bu c (a+1) (by omega)) (N:=4294967296) (by omega) (by show DS.num _ a<_;rw [g];omega);have Bq:(cZ (cN S.take s a b).2 s a 4294967296).2.fuse= -1:=Dh A4 s a _;have d:(cZ (cN S.take s a b).2 s a 4294967296).1=0:=Decidable.byContradiction (λe=>by have i:=(pY (num:=4294967296) (by omega) l e).1;rw [Bq] at i;omega);obtain⟨w1,q⟩:=LB (s:=s) (f:=a) (N:=4294967296) c (by omega) (by omega) (by omega) (by rw [g];omega) d;refine⟨d,Bq,?_,λj r=>?_⟩
 .unfold b9 ik;generalize am ((cZ (cN S.take s a b).2 s a 4294967296).2.now a) ((cZ (cN S.take s a b).2 s a 4294967296).2.now (a+1))=X at*;have w1:=w1;rw [w1];decide
 .have:=q (a+2+j) (by omega) (by omega) (by omega);refine Eq.trans this ?_;rw [show a+2+j=a+(2+j) by omega];exact m (2+j) (by omega)
def Pb {b:Nat} (k:S.Ok s) (n:S.fuse= -1) (oE:a+2+b<=s) (ar:18<=b) (bd:b<=256) (g:b9 S a=(1,0,0)) (u:∀j,j<b->S.now (a+2+j)=zs 512):
    (bA S s a b).1=0/\(bA S s a b).2.fuse= -1/\(bA S s a b).2.life=wrap64 (S.life+1)/\(∀rs hd,dF (Rp (dZ S a) b) (b9 S a).1 (b9 S a).2.1 rs hd->rs= []/\hd=0)/\ir S a b=1:=by
 have Y7:cw S s (a:Int) (b:Int)=0:=by
  unfold cw;rw [aB (by omega),aB (by omega),aB (by omega),aB (by omega)]
 have m:∀j,j<b->(dZ S a j).e=0/\(dZ S a j).d= []:=λj r=>by
  unfold dZ;rw [u j r];exact⟨wY.2,wY.1⟩
 have t:ir S a b=1:=by
  unfold ir;rw [Di b (λi q=>(m i q).1),g];rfl
 have o:bA S s (a:Int) (b:Int)=S.take.fl s:=by
  unfold bA;rw [aB (by omega),Int.toNat_natCast,Int.toNat_natCast,aB (by rw [g];decide),aB (by omega)]
 rw [o];have f:=rq (S:=S.take) n s;refine⟨Decidable.byContradiction (λe=>by have:=(lu e).2.1;have:S.take.fuse= -1:=n;omega),f,fX _ _,λrs hd Ai=>?_,t⟩;rw [g] at Ai;cases rs with
 |nil=>exact⟨rfl,Ai⟩
 |cons x xs=>
  obtain⟨c,f,_⟩:=Ai;have l:=(f.2.2.1 0 (by have:=f.1;omega)).2.2.2.2.1;have p:Rp (dZ S a) b (0+0)=dZ S a 0:=by unfold Rp;rw [Nat.add_zero,Nat.zero_mod]
  rw [p,(m 0 (by omega)).2] at l;simp at l
end
end
section
section
variable {S S2:DS} {s h0:Nat} {x:Int}
def wV:∀{ms:CM} {S:DS},S.fuse= -1->(aE S s h0 ms).2.fuse= -1
 | [],_,h=>h
 |q :: qs,S,h=>by
  have a:=rp h s ((h0+q.1:Nat):Int) 512 q.2;unfold aE;split
  .exact a
  .exact wV a
def Dj:∀{ms:CM} {S:DS},S.fuse= -1->(∀q∈ms,h0+q.1<s/\q.2=zs 512)->(∀j,j<s->S.now j=zs 512)->∀j,j<s->(aE S s h0 ms).2.now j=zs 512
 | [],_,_,_,hz=>hz
 |q :: qs,S,h,hm,hz=>by
  obtain⟨d,e⟩:=hm q (List.mem_cons_self ..);have a:∀j,j<s->(S.wr s ((h0+q.1:Nat):Int) 512 q.2).2.now j=zs 512:=λj b=>by
   rw [jK (by omega) d];split
   .exact e
   .exact hz j b
  unfold aE;split
  .exact a
  .exact Dj (rp h s ((h0+q.1:Nat):Int) 512 q.2) (λx c=>hm x (List.mem_cons_of_mem _ c)) a
def EY (d:a+n<=s):∀q∈fb n,a+q.1<s/\q.2=zs 512:=λq b=>by
 unfold fb at b;obtain⟨i,c,rfl⟩:=List.mem_map.1 b;have:=List.mem_range.1 c;exact⟨by show a+i<s;omega,rfl⟩
def Fb (a:S.fuse= -1):(S.fl s).1=0:=Decidable.byContradiction (λe=>by have:=(lu e).2.1;omega)
def AQ (du:S.Ok s) (f:S.fuse= -1) (b:a+n<=s) (r:∀j,j<s->S.now j=zs 512):(eB S s a n).1=0/\(eB S s a n).2.fuse= -1/\(eB S s a n).2.Ok s/\(eB S s a n).2.puts= []/\(∀j,j<s->(eB S s a n).2.now j=zs 512):=by
 obtain⟨k,_,_,l⟩:=qF du b;obtain⟨_,_,m,o,_⟩:=eC (h0:=a) (ms:=fb n) du (λq i=>⟨(EY b q i).1,by rw [(EY b q i).2];exact bH 512⟩);have c:=wV (s:=s) (h0:=a) (ms:=fb n) f;have p:=Decidable.byContradiction (λe=>by have:=o e;omega);have e:eB S s a n=(aE S s a (fb n)).2.fl s:=by unfold eB;rw [aB (λh=>h p)]
 have d:(eB S s a n).1=0:=by rw [e];exact Fb c
 refine⟨d,by rw [e];exact rq c s,k,l d,λj g=>?_⟩;rw [e,eY m g];exact(Dj (s:=s) (h0:=a) f (EY b) r) j g
def abr {k:Nat} (c:k<s) (l:List Int) (b:j≠k):(S.wr s (k:Int) 512 l).2.now j=S.now j:=by
 by_cases a:S.fuse=0
 .unfold DS.wr;rw [aG a]
 .rw [jK a c,aB b]
def AR {f j:Nat}:∀k,f+k<=s->f+k<=j->(bE S s f k).2.now j=S.now j
 |0,_,_=>rfl
 |k+1,h1,h2=>by
  have a:(bE S s f k).2.now j=S.now j:=AR k (by omega) (by omega);show (cB S _ (k+1)).2.now j=_;unfold cB;split
  .exact a
  .exact(abr (k:=f+k) (by omega) _ (by omega)).trans a
def IF {b:Nat} (du:S.Ok s) (oE:a+2+b<=s) (k:a+2+b<=j) (c:j<s):(cD S s (a:Int) (b:Int)).2.now j=S.now j:=by
 have pI:S.take.Ok s:=⟨du.len,du.lo,du.hi,du.puts,du.fuse⟩;obtain⟨_,g,_,_⟩:=lF (f:=a) pI (n:=b+2) (by omega) (b+2) (bS _);have d:(bE S.take s a (b+2)).2.now j=S.now j:=AR (S:=S.take) (b+2) (by omega) (by omega);have e:(cN S.take s a b).2.now j=S.now j:=by
  unfold cN;split
  .exact d
  .exact(eY g c).trans d
 obtain⟨_,i,_,_⟩:=kP (f:=a) (n:=b) pI oE;unfold cD;split
 .rfl
 .simp only [Int.toNat_natCast];split
  .exact e
  .exact((nS i (by omega) _).2 j (by omega) c).trans e
def EZ (n k:Nat):(bB n k).take n=bB n k:=nr (by rw [aK];omega)
def TS {b:Nat} (j:vE a b c):mI (gV a b c) a/\(cE (gV a b c)).log=b/\(cE (gV a b c)).home=3+b/\(cE (gV a b c)).blocks=a-(3+b):=by
 have Rt:=j;obtain⟨⟨l,n⟩,⟨o,p⟩,r,s,t⟩:=j;have e:=kx a b c;have uK:gy.length=8:=rfl;have i:∀q m,q+m<=508->part (eV (bP a b c)) q m=part (bP a b c) q m:=λq m h=>iX _ _ _ _ (by rw [dG];exact h);have g:u32 (eV (bP a b c)) 8=a:=by
  unfold u32;rw [i 8 4 (by omega)];unfold bP;rw [iX _ _ _ _ (by simp only [ed,aK,uK];omega),iX _ _ _ _ (by simp only [ed,aK,uK];omega),iX _ _ _ _ (by simp only [ed,aK,uK];omega),qA _ _ _ _ uK.symm,EZ,Ao _ _ (by omega)]
 have d:u32 (eV (bP a b c)) 12=b:=by
  unfold u32;rw [i 12 4 (by omega)];unfold bP;rw [iX _ _ _ _ (by simp only [ed,aK,uK];omega),iX _ _ _ _ (by simp only [ed,aK,uK];omega),qA _ _ _ _ (by simp only [ed,aK,uK]),EZ,Ao _ _ (by omega)]
 have f:u32 (eV (bP a b c)) 16=c:=by
  unfold u32;rw [i 16 4 (by omega)];unfold bP;rw [iX _ _ _ _ (by simp only [ed,aK,uK];omega),qA _ _ _ _ (by simp only [ed,aK,uK]),EZ,Ao _ _ (by omega)]
 have k:Bytes (eV (bP a b c)):=(ia _ _ _).append (iR _ _);refine⟨⟨(C8 k e).2 ⟨?_,?_⟩,g⟩,?_,?_,?_⟩
 .rw [g,d,f];exact Rt
 .rw [g,d,f]
 .unfold cE;exact d
 .unfold cE;show 3+u32 _ 12=_;rw [d]
 .unfold cE;show u32 _ 8-(3+u32 _ 12)=_;rw [g,d]
def E0 {b:Nat} (du:S.Ok a) (dD:S.fL) (Y:S.fuse= -1) (vX:0<=S.life) (cq:S.life<=1) (q:vE a b c) (Z:∀j,j<a->S.now j=zs 512):
    (bY S a a b c).1=0/\(bY S a a b c).2.fuse= -1/\(bY S a a b c).2.Ok a/\(bY S a a b c).2.puts= []/\(bY S a a b c).2.now 0=gV a b c/\b9 (bY S a a b c).2 1=(1,0,0)/\∀j,3<=j->j<a->(bY S a a b c).2.now j=zs 512:=by
 obtain⟨⟨O,P⟩,⟨Q,R⟩,T,U,W⟩:=q;have q:vE a b c:=⟨⟨O,P⟩,⟨Q,R⟩,T,U,W⟩;have pI:S.take.Ok a:=⟨du.len,du.lo,du.hi,du.puts,du.fuse⟩;have J:bY S a a b c=lI S a b c:=by
  unfold bY;rw [aB (by omega)]
  haveI:=Sb (a:Int) (b:Int) (c:Int)
  rw [aG ⟨q,rfl⟩,Int.toNat_natCast,Int.toNat_natCast]
 obtain⟨u,v,w,G,x⟩:=AQ (s:=a) (a:=0) (n:=1) pI Y (by omega) (λj r=>Z j r);have y:=ku dD.take a 0 1;have z:=uH S.take a 0 1;have M:ma S a=eB S.take a 0 1:=rfl;rw [<-M] at u v w G x y z;obtain⟨A,C,e,D,E⟩:=AQ (s:=a) (a:=1) (n:=a-1) w v (by omega) x;have H:=ku y a 1 (a-1);have I:=(uH (ma S a).2 a 1 (a-1)).trans z;have N:nc S a=eB (ma S a).2 a 1 (a-1):=rfl;rw [<-N] at A C e D E H I;have bq:S.take.life=S.life+1:=by show wrap64 (S.life+1)=_;unfold wrap64;omega
 obtain⟨g,i,k,l⟩:=IQ (a:=1) (b:=b) e C (by omega) (by omega) (by omega);obtain⟨m,_,d3⟩:=rX (S:=(nc S a).2) (s:=a) (t:=10) e (by omega) (by omega) (by omega) (by omega) D 1 (b:Int);have abs:∀j,3+b<=j->j<a->(cD (nc S a).2 a 1 (b:Int)).2.now j=zs 512:=λj X d=>(IF (a:=1) (b:=b) e (by omega) (by omega) d).trans (E j d);have g:(jS S a b).1=0:=g;have i:(jS S a b).2.fuse= -1:=i;have k:b9 (jS S a b).2 1=(1,0,0):=k;have l:∀j,j<b->(jS S a b).2.now (1+2+j)=zs 512:=l;have m:(jS S a b).2.Ok a:=m;have abs:∀j,3+b<=j->j<a->(jS S a b).2.now j=zs 512:=abs;have mR:(gV a b c).length=512:=kx _ _ _;have p:mb S a b c=(jS S a b).2.wr a ((0:Nat):Int) 512 (gV a b c):=rfl;have K:(mb S a b c).1=0:=by rw [p,oW (by omega) (by omega)]
 have o:(mb S a b c).2.fuse= -1:=rp i _ _ _ _;have F:(mb S a b c).2.Ok a:=by rw [p];exact tX m (by omega) (by omega) mR
 have f:∀j,(mb S a b c).2.now j=if j=0 then gV a b c else (jS S a b).2.now j:=λj=>by rw [p];exact jK (by omega) (by omega) _ j
 have L:lI S a b c=(mb S a b c).2.fl a:=by
  unfold lI;rw [aB (λh=>h u),aB (λh=>h A),aB (λh=>h g),aB (λh=>h K)]
 rw [J,L];have jW:∀j,j<a->((mb S a b c).2.fl a).2.now j=(mb S a b c).2.now j:=λj r=>eY F r;refine⟨Fb o,rq o a,rY F,jm (Fb o),?_,?_,λj X d=>?_⟩
 .rw [jW 0 (by omega),f 0,aG rfl]
 .have o1:((mb S a b c).2.fl a).2.now 1=(jS S a b).2.now 1:=by rw [jW 1 (by omega),f 1,aB (by omega)]
  have o2:((mb S a b c).2.fl a).2.now 2=(jS S a b).2.now 2:=by rw [jW 2 (by omega),f 2,aB (by omega)]
  rw [<-k];unfold b9;rw [o1,o2]
 .rw [jW j d,f j,aB (by omega)];by_cases h3:j<3+b
  .have:=l (j-3) (by omega);rwa [show 1+2+(j-3)=j by omega] at this
  .exact abs j (by omega) d
def IG (a:S.fuse= -1):(L.start S s).2.1.fuse= -1:=by
 unfold LG.start;split
 .exact a
 .split
  .exact a
  .split <;> exact Dh a _ _ _
def IH:(L.start S s).2.2.life=L.life:=by
 unfold LG.start;split
 .rfl
 .split
  .rfl
  .split <;> rfl
def sY.life (h:sY S s L):L.life=wrap64 (S.life+1):=by
 obtain⟨rs,hd,ov,_,_,rfl⟩:=h;exact IH
def LC (du:S.Ok s) (dD:S.fL) (l:S.fuse= -1) (qG:mI (S.now 0) s) (u:b9 S 1=(1,0,0)) (y:∀j,j<(cE (S.now 0)).log->S.now (1+2+j)=zs 512) (v:j0 S s x S2):x=0/\S2.fuse= -1/\∀j,3<=j->j<s->S2.now j=S.now j:=by
 have uE:=kw qG;obtain⟨n,D,E,o,F⟩:=Pb (a:=1) (b:=(cE (S.now 0)).log) du l (by omega) (by omega) (by omega) u y;have Iw:(bA S s 1 (((cE (S.now 0)).log:Nat):Int)).1=0:=n;obtain⟨_,m,C,mi⟩:=l7 (f:=1) Iw;have QY:bA S s 1 (((cE (S.now 0)).log:Nat):Int)=S.take.fl s:=mi;have pI:S.take.Ok s:=⟨du.len,du.lo,du.hi,du.puts,du.fuse⟩;rcases v with ⟨r,A,rfl⟩|⟨_,_,k⟩
 .exfalso;rcases r with ⟨d,_,_⟩|⟨_,_,_,e⟩|⟨_,c,_,_⟩
  .omega
  .exact A e
  .exact c qG
 .rcases k with ⟨p,z,_⟩|⟨_,rs,hd,Fq,k⟩
  .exact absurd (p.symm.trans Iw) z
  .obtain⟨rfl,rfl⟩:=o rs hd Fq.t;rcases k with ⟨d,_,_⟩|⟨ov,uR,k⟩
   .cases d
   .have w:em (bA S s 1 (((cE (S.now 0)).log:Nat):Int)).2 s (cE (S.now 0)) ov []=(0,(bA S s 1 (((cE (S.now 0)).log:Nat):Int)).2):=(by unfold em;rw [aG rfl]);rw [w] at k;rcases k with ⟨d,c,_⟩|⟨_,c,rfl⟩
    .exact absurd d.symm c
    .have xJ:=yn (s:=s) Fq dD m C (by omega) (by omega) (by omega);have JA:S.num 1<((fh S 1 (cE (S.now 0)).log 0).top+1)*4294967296:=EF m;rw [QY] at c⊢;have afR:=rY (s:=s) pI;have MY:∀j,j<s->(S.take.fl s).2.now j=S.now j:=λj q=>eY (S:=S.take) pI q;have fB:(S.take.fl s).2.num (fh S 1 (cE (S.now 0)).log 0).f<((fh S 1 (cE (S.now 0)).log 0).top+1)*4294967296:=by
      show (S.take.fl s).2.num 1<_;rw [vI (S:=S) (S':=(S.take.fl s).2) (MY 1 (by omega)) (MY 2 (by omega))];exact JA
     have SE:(fh S 1 (cE (S.now 0)).log 0).life=(S.take.fl s).2.life:=(fX S.take s).symm;have g:=rq (S:=S.take) l s;have Fj:=IG (s:=s) (L:=fh S 1 (cE (S.now 0)).log 0) g;refine⟨Decidable.byContradiction (λe=>?_),Fj,λj G i=>?_⟩
     .have:=(De afR xJ rfl SE fB (by show ((fh S 1 (cE (S.now 0)).log 0).start (S.take.fl s).2 s).1≠0;rw [c];exact e)).1;omega
     .refine Eq.trans ?_ (MY j i);show ((fh S 1 (cE (S.now 0)).log 0).start (S.take.fl s).2 s).2.1.now j=_;unfold LG.start;split
      .rfl
      .split
       .rfl
       .split <;> exact(nS afR (by show 1+1<s;omega) _).2 j (by show 1+2<=j;omega) i
end
end
def Pi (a:j<s):(DS.fresh (List.replicate (s*512) 0)).now j=zs 512:=by
 show bL (List.replicate (s*512) 0) j=zs 512;unfold bL zs;rw [List.drop_replicate,List.take_replicate];congr 1;omega
structure abt (S:DS):Prop where
 c:(bY S 30 30 18 4).1=0
 f:(bY S 30 30 18 4).2.fuse= -1
 i:V.Inv (bY S 30 30 18 4).2 30 [] 3
 u:mI ((bY S 30 30 18 4).2.now 0) 30
 l:(cE ((bY S 30 30 18 4).2.now 0)).log=18
 h:(cE ((bY S 30 30 18 4).2.now 0)).home=21
 b:(cE ((bY S 30 30 18 4).2.now 0)).blocks=9
 n:b9 (bY S 30 30 18 4).2 1=(1,0,0)
 z:∀j,3<=j->j<30->(bY S 30 30 18 4).2.now j=zs 512
def Xl (du:S.Ok 30) (dD:S.fL) (r:S.puts.length=0) (p:S.fuse= -1) (v:S.life=1) (s:∀j,j<30->S.now j=zs 512):abt S:=by
 have e:vE (30:Nat) (18:Nat) (4:Nat):=by unfold vE;decide
 obtain⟨f,g,t,u,d,i,k⟩:=E0 (a:=30) (b:=18) (c:=4) du dD p (by omega) (by omega) e s;obtain⟨l,m,n,o⟩:=TS e;have q:V.Inv S 30 [] 1:=V.Inv.zero du dD r (by omega) (by omega);have d:(bY S 30 30 18 4).2.now 0=gV 30 18 4:=d;exact⟨f,g,q.ae6 (by omega) 30 18 4,by rw [d];exact l,by rw [d];exact m,by rw [d];exact n,by rw [d];exact o,i,k⟩
def II (hd:G.L.dead S=false) (a:G.busy=false):G.begin S=0:=by
 unfold SG.begin;rw [hd,a];rfl
def E2 {b:Int} (hd:G.L.dead S=false) (h0:0<=b) (d:b<(G.y.blocks:Int)):(⟨[],0,false⟩:TG).refusal G S b=0:=by
 have a:(⟨[],0,false⟩:TG).bT G S=0:=by unfold TG.bT;rw [hd];rfl
 have c:(⟨[],0,false⟩:TG).state G S=0:=by unfold TG.state;rw [a];rfl
 unfold TG.refusal;rw [c,aB (λh=>h rfl),aB (by omega)]
def Pc (w:World):Calls prog 8 #[] w λe w'=>e= .returned (.bool true)/\bW w w':=by
 have D:=PP 30 w (by omega) (by omega);rw [show ((30:Nat):Int)=30 from rfl] at D;go_in;go_wp2_with fail;refine D.mono ?_;rintro e w1 ⟨p,rfl,iN,ar⟩;have afS:B.ax w1 (λk=>w.heap.size<=k/\k<w1.heap.size) p 30 (DS.fresh (List.replicate (30*512) 0)) 0:=⟨0,iN,λ_=>⟨Int.le_refl _,Int.le_refl _⟩⟩;have hm:=Xl iN.ok ⟨Bytes.tE _,λq v=>by cases v⟩ rfl rfl rfl (λj J=>Pi J);have dD:(DS.fresh (List.replicate (30*512) 0)).fL:=⟨Bytes.tE _,λq v=>by cases v⟩;have sH:(DS.fresh (List.replicate (30*512) 0)).puts.length=0:=rfl;generalize DS.fresh (List.replicate (30*512) 0)=X at*;have afT:∀k,(λk=>w.heap.size<=k/\k<w1.heap.size) k->w.heap.size<=k:=λk C=>C.1;have aeJ:∀k,(λk=>w.heap.size<=k/\k<w1.heap.size) k->k<w1.heap.size:=λk C=>C.2;generalize (λk=>w.heap.size<=k/\k<w1.heap.size)=U at*;have E:=wK afS dD 30 18 4 (by omega);obtain⟨Q,m2,R,m4,m5,m6,m7,m8,S⟩:=hm;rw [Q] at E;generalize (bY X 30 30 18 4).2=b at*;obtain⟨cQ,r,G,afU,F⟩:=eK ar R S afT ar.size;clear D iN afS ar dD sH Q R S afT;go_wp2_with fail;refine fR E λw2 cI aY=>?_;obtain⟨K,anO,ig,zz2⟩:=cO (AJ cI r.pZ (by have:=r.p6;omega)) cI.lt aY aY.size;clear E cI aY;go_wp2_with fail;refine K.mono ?_;rintro e w3 ⟨x,c,Y,_,mc,aZ,Iy⟩;obtain⟨y,n2,n3⟩:=LC r.ok r.pZ m2 m4 m8 (λj J=>G (1+2+j) (by omega) (by omega)) mc;rcases Iy with ⟨a,_⟩|⟨_,q,l,m,L,F',mR,rfl,YA,v,hl,hm',bw⟩
 .exact absurd y a
 .have SE:L.life=c.life:=by
   rw [mR.life];rcases mc.life with ⟨_,s⟩|s
   .exact absurd y s
   .exact s.symm
  have YI:L.dead c=false:=by
   unfold LG.dead;rw [SE,n2];simp
  have M:=(sL bw).mono (λe w' h=>by unfold sK at h;rw [aB (λh=>h (II YI rfl))] at h;exact h);obtain⟨uV,gY,W,lO,A,zz3⟩:=jE (((r.fA (by omega) mc).2 y L mR).p6) bw mc aZ YA aZ.size;clear K bw mc aZ YA mR y;go_wp2_with fail;refine M.mono ?_;rintro e T ⟨t,n,rfl,Wf,ht4,Yo,afV,ST,afW,dW⟩;have TP:it T F' p 30 Y q l m c ⟨cE (b.now 0),L, [],true⟩:=⟨gY.d.aw dW (λg f e=>gY.nq (e▸f)),afW,gY.lp.aw dW (λe=>gY.ql e.symm),gY.ch.aw dW (λe=>gY.qm e.symm),gY.nq,gY.nl,gY.nm,gY.ql,gY.qm,gY.lm,gY.lk,gY.bg,gY.hs,gY.kb⟩;obtain⟨rL,A7,j5,B7⟩:=cO gY.d.lt gY.st.lt gY.lp.lt gY.ch.lt;have AM:mD T F' q l m t n ⟨cE (b.now 0),L, [],true⟩ ⟨[],0,false⟩:=⟨afV,ST,λa=>by have:=rL _ a;omega,λa=>by have:=rL _ a;omega,by omega,by omega,by omega,Yo,by omega,by omega,by omega,λx a=>by cases a⟩;have u:(⟨[],0,false⟩:TG).refusal ⟨cE (b.now 0),L, [],true⟩ c 8=0:=E2 YI (by omega) (by show 8<((cE (b.now 0)).blocks:Int);omega);have DB:(⟨[],0,false⟩:TG).jY ⟨cE (b.now 0),L, [],true⟩ c (8:Int).toNat=zs 512:=by
   show c.now ((cE (b.now 0)).home+8)=zs 512;rw [m6,n3 29 (by omega) (by omega)];exact G 29 (by omega) (by omega)
  have N:=(Ef TP AM 8 (by omega)).mono (λe w' h=>by rw [DB] at h;unfold vy at h;rw [aB (λh=>h u)] at h;exact h);have Mb:=dW;have zz4:=dW.size;clear M afV ST afW dW TP AM u DB;go_wp2_with fail;refine N.mono ?_;rintro e w5 ⟨⟨I,rfl,Gn,aV⟩,jG,dX⟩;have i:=aV;have fa:bW w w5:=by
   have H:∀g,more U w1 w2 g->w.heap.size<=g:=λg f=>f.elim (afU g) (λh=>by omega);have Z:=λg f=>(A g f).elim (H g) (λh=>by omega);exact(((cQ.trans (ig.below afU F)).trans (lO.below H (by omega))).trans (Mb.below (λg f=>by omega) (by omega))).trans (dX.below Z (by omega))
  have jq:=fa;have zz5:=dX.size;clear N aV jG dX fa;have X5:(Instr.makeSlice 22 (iV 512) (iV 512)).run prog w5= .ok (.slice (some (aD w5.heap.size 0)) 512 512) (w5.alloc (.cells (madeCells #[.int .u8 0] 512) 5)):=run_make_row' (P:=prog) 22 5 (.int .u8 0) 1 underlying22 gh rfl .i64 .i64 512 (by omega) (by omega) w5;obtain⟨z,ME⟩:=bQ (w5.alloc (.cells (madeCells #[.int .u8 0] 512) 5));rw [<-ME] at X5;have nE:bW w5 z:=by rw [ME];exact aJ _ _
  have Bt:ay z 5 w5.heap.size 512 (bs (zs 512)):=by
   rw [ME];exact lS (World.ownsRow_lit (base:=w5.heap.size) w5 (madeCells #[.int .u8 0] 512) 512 (bS _) (by unfold maxLen;omega) (by simp [madeCells]))
  have Up:Src z (some (aD w5.heap.size 0)) 512 (zs 512):=by have:=Bt.src;rwa [bH] at this
  have O:=pr (some (aD I 0)) (some (aD w5.heap.size 0)) 512 512 512 (zs 512) z (by omega) (by
    have s:=(i.aw (nE.block I i.lt)).src (o:=0) (n:=512) (by have:=bH 512;omega);rwa [List.drop_zero,nr (by rw [bH];omega)] at s) Up
  have xu:=(jq.trans (nE.mono (by omega)));have zz6:=nE.size;clear Bt nE Up ME;go_wp2_with fail;refine bM O λw7 xx=>?_;have Fp:=(xu.trans (xx.mono (by omega)));clear O xx;go_wp2;go_ret;exact⟨rfl,Fp⟩
abbrev Pd (p r:Value):Array Value:= #[p,r, .slice none 0 0, .slice none 0 0, .slice none 0 0, .slice none 0 0]
def E3 (w w':World) (l:List Int) (q:Nat):Prop:=
 bW w w'/\w.heap.size<=q/\(w'.heap[q]? =some (.cells (Pd (.pointer none) (.pointer none)) 37 (0,0))\/
  ∃(F F2 O:Nat->Prop) (p r s:Nat) (im:List Int),W5 w' q F (λ_=>False) F2 (λ_=>False) O p r s (DS.fresh im) (DS.fresh im) 0 (.slice none 0 0) (.slice none 0 0) (.slice none 0 0) (.slice none 0 0) [] [] [] []/\(im=l\/∃m,im=List.replicate m 0)/\∀g,(F g\/F2 g\/O g)->w.heap.size<=g)
def abu {w1:World} {G:Nat->Prop} {r:Nat} (h:Two w1 w.heap.size F G p r s (DS.fresh im) (DS.fresh im)) (j:w.heap.size<=w1.heap.size):
  ∃O,W5 (w1.alloc (.cells (Pd (pV p) (pV r)) 37)) w1.heap.size F (λ_=>False) G (λ_=>False) O p r s (DS.fresh im) (DS.fresh im) 0 (.slice none 0 0) (.slice none 0 0) (.slice none 0 0) (.slice none 0 0) [] [] [] []/\∀g,(F g\/G g\/O g)->w.heap.size<=g:=by
 have f:=aJ w1 (.cells (Pd (pV p) (pV r)) 37);have hd:B.ax w1 F p s (DS.fresh im) 0:=⟨0,h.d,λ_=>⟨Int.le_refl _,Int.le_refl _⟩⟩;have i:=h.e.later f;have eE:(w1.alloc (.cells (Pd (pV p) (pV r)) 37)).heap.size=w1.heap.size+1:=by simp
 have c:∀g,(Value.slice none 0 0).ownBlock=some g->False:=λg e=>by simp [Value.ownBlock] at e
 refine⟨λg=>g=w1.heap.size,⟨heap_alloc_new _ _,rfl,λg e=>by omega,⟨hd.later f,λ_ h=>h.elim,λ_ h=>h.elim,λ_ h=>(by cases h),λ_ h=>(by cases h),List.nodup_nil,List.nodup_nil,List.nodup_nil,List.nodup_nil⟩,⟨i,λ_ h=>h.elim,λ_ h=>h.elim,λ_ h=>(by cases h),λ_ h=>(by cases h),List.nodup_nil,List.nodup_nil,List.nodup_nil,λ_ _ _ _ h=>(by simp at h),λ_ _ _ _ h=>(by simp at h),λ_ h=>(by cases h)⟩,World.ownsRow_nil _ _ _ _,λg e=>(c g e).elim,World.ownsRow_nil _ _ _ _,λg e=>(c g e).elim,World.ownsRow_nil _ _ _ _,λg e=>(c g e).elim,World.ownsRow_nil _ _ _ _,λg e=>(c g e).elim,λg b a=>?_,λg e a=>?_,λg e a=>?_⟩,λg b=>?_⟩
 .rcases b with b|b
  .rcases a with a|a
   .exact h.fM g b a
   .exact a
  .exact b
 .rcases a with a|a
  .have:=hd.lt g a;omega
  .exact a
 .rcases a with a|a
  .have:=h.e.lt g a;omega
  .exact a
 .rcases b with b|b|b
  .exact h.fF g b
  .exact h.fG g b
  .omega
def LD (bL:Int) (a:Option Addr) (n c:Nat) (l:List Int) (w:World) (g:Src w a n l) (u:n<=140737488355328) (lg:n<=c):
  Calls prog 7 #[iV bL, .slice a n c] w λe w'=>∃q,e= .returned (.tuple #[pV q, .bool true])/\E3 w w' l q:=by
 have f:=NY bL a n c l w w.heap.size (bS _) g u lg;clear g;go_in;go_wp2_with fail;refine f.mono ?_;rintro e w1 ⟨d,r,rfl,ar,⟨rfl,rfl⟩|⟨F,G,p,q,s,im,rfl,rfl,i,t,m,o⟩⟩
 .have b:(E3 w (w1.alloc (.cells (Pd (.pointer none) (.pointer none)) 37)) l w1.heap.size):=⟨ar.trans ((aJ w1 _).mono ar.size),ar.size, .inl (heap_alloc_new _ _)⟩;clear f ar;go_wp2;go_ret2;exact⟨_,rfl,b⟩
 .have b:(E3 w (w1.alloc (.cells (Pd (pV p) (pV q)) 37)) l w1.heap.size):=by
   obtain⟨O,j,k⟩:=abu i ar.size;exact⟨ar.trans ((aJ w1 _).mono ar.size),ar.size, .inr ⟨F,G,O,p,q,s,im,j,t,k⟩⟩
  clear f ar i m o;go_wp2;go_ret2;exact⟨_,rfl,b⟩
def TT {r:Nat} {F2 O:Nat->Prop} (h:W5 w q F (λ_=>False) F2 (λ_=>False) O p r s (DS.fresh im) (DS.fresh im) 0 (.slice none 0 0) (.slice none 0 0) (.slice none 0 0) (.slice none 0 0) [] [] [] []) (b:im=l\/∃m,im=List.replicate m 0) (a:Bytes l):Lk (DS.fresh im) s 1 [] [] [] []:=by
 refine⟨rfl,λ_ _ _ h=>(by simp at h),rfl,λ_ _ _ h=>(by simp at h),V.Inv.zero h.pw.d.ok ⟨?_,λq c=>by cases c⟩ rfl (show (0:Int)<=1 by decide) (show (1:Int)<=1 by decide),λ_ _ _ h=>(by simp at h),λ_ h=>(by cases h),λ_ _ _ h=>(by simp at h),rfl⟩;rcases b with rfl|⟨m,rfl⟩
 .exact a
 .exact Bytes.tE m
section
open Go.ChangeShapes Go.WideShapes Go.ChangeAt Go.RowKit Go.Deep
def Pe:prog.bytesOf 112=24:=by kernel_rfl
def TU:prog.bytesOf 42=104:=by kernel_rfl
def AS:prog.cellsOf 38=1:=by kernel_rfl
def Dk:prog.cellsOf 112=3:=by kernel_rfl
def vS:prog.cellsOf 40=3:=by kernel_rfl
def AT:prog.cellsOf 42=9:=by kernel_rfl
structure Pf (w:World) (B:Nat) (ag A:Int) (da:Option Addr) (dn dc:Nat) (pa:Option Addr) (pn:Nat) (d:List Int) (pl:List P3):Prop where
 g:ag<=9223372036854775807
 A:A<=9223372036854775807
 s:Src w da dn d
 b:Bytes d
 c:dn<=dc
 n:dn<=140737488355328
 l:∀y,da=some y->0<dn->y.block<B
 p:kX w pa pn pl
 pq:∀y,pa=some y->0<pn->y.block<B
 pn:24*pn<=140737488355328
def Pf.lQ {B:Nat} {e:List P3} (h:Pf w B ag A da dn dc pa pn d e) (a:Below B w w'):Pf w' B ag A da dn dc pa pn d e:=
   ⟨h.g,h.A,h.s.lQ a h.l,h.b,h.c,h.n,h.l,h.p.lQ a h.pq,h.pq,h.pn⟩
def Pf.akV {A':Nat->Prop} {B:Nat} {e:List P3} (h:Pf w B ag A da dn dc pa pn d e) (b:∀g,A' g->B<=g) (c:B<=w.heap.size):(∀W,aa A' w W->Src W da dn d)/\∀W,aa A' w W->kX W pa pn e:=
   ⟨λ_ a=>h.s.lQ (a.below b c) h.l,λ_ a=>h.p.lQ (a.below b c) h.pq⟩
def mK (w:World) (B:Nat) (sa:Option Addr) (n:Nat):Prop:=
   (sa=none->n=0)/\∀y,sa=some y->∀i,i<n->∃b o,y=(aD b o)/\b<B/\∃kd ag A B' da dn dc pa pn pc x y' z d pl,
  w.cell? ⟨b,o+i*9,none⟩=some (iV kd)/\w.cell? ⟨b,o+i*9+1,none⟩=some (iV ag)/\w.cell? ⟨b,o+i*9+2,none⟩=some (iV A)/\w.cell? ⟨b,o+i*9+3,none⟩=some (iV B')/\w.cell? ⟨b,o+i*9+4,none⟩=some (.slice da dn dc)/\w.cell? ⟨b,o+i*9+5,none⟩=some (.slice pa pn pc)/\w.cell? ⟨b,o+i*9+6,none⟩=some (iV x)/\w.cell? ⟨b,o+i*9+7,none⟩=some (iV y')/\w.cell? ⟨b,o+i*9+8,none⟩=some (iV z)/\Pf w B ag A da dn dc pa pn d pl
def mK.lQ {B:Nat} {f:Option Addr} (h:mK w B f n) (c:Below B w w'):mK w' B f n:=by
 refine⟨h.1,λy F i D=>?_⟩;obtain⟨b,o,rfl,Mu,G,g,A,B',u,C,v,H,K,I,x,L,z,d,J,j,k,l,m,p,q,r,s,t,E⟩:=h.2 y F i D;have e:=c.block b Mu;exact⟨b,o,rfl,Mu,G,g,A,B',u,C,v,H,K,I,x,L,z,d,J,(World.cell?_of_block (w:=w) (a:=(aD b _)) e).trans j,(World.cell?_of_block (w:=w) (a:=(aD b _)) e).trans k,(World.cell?_of_block (w:=w) (a:=(aD b _)) e).trans l,(World.cell?_of_block (w:=w) (a:=(aD b _)) e).trans m,(World.cell?_of_block (w:=w) (a:=(aD b _)) e).trans p,(World.cell?_of_block (w:=w) (a:=(aD b _)) e).trans q,(World.cell?_of_block (w:=w) (a:=(aD b _)) e).trans r,(World.cell?_of_block (w:=w) (a:=(aD b _)) e).trans s,(World.cell?_of_block (w:=w) (a:=(aD b _)) e).trans t,E.lQ c⟩
section
variable {H:Type} {enc:TypeId×Value->H} {W:World} {base:Nat} {spare:Nat->Bool} {held:Bool}
def YJ {P:Program} {e:TypeId} {f g i j c d l:Field} {cs:List Value} {x:DataW H×List MemPlace} (p:P.underlying e=some (.struct #[f,g,i,j,c,d,l])) (J:P.cellsOf e=9) (K:f.offset=0) (L:g.offset=1) (M:i.offset=2) (N:j.offset=3) (O:c.offset=4) (Q:d.offset=5) (R:l.offset=6)
    (A:P.cellsOf f.type=1) (C:P.cellsOf g.type=1) (D:P.cellsOf i.type=1) (E:P.cellsOf j.type=1) (F:P.cellsOf c.type=1) (G:P.cellsOf d.type=1) (I:P.cellsOf l.type=3) (h:DataW.trod enc P W base spare held n e cs=some x):
  ∃v0 v1 v2 v3 v4 v5 v6 v7 v8 y0 y1 y2 y3 y4 y5 y6 k,cs= [v0,v1,v2,v3,v4,v5,v6,v7,v8]/\x.1= .agg [y0.1,y1.1,y2.1,y3.1,y4.1,y5.1,y6.1]/\DataW.trod enc P W base spare held k f.type [v0]=some y0/\DataW.trod enc P W base spare held k g.type [v1]=some y1/\DataW.trod enc P W base spare held k i.type [v2]=some y2/\DataW.trod enc P W base spare held k j.type [v3]=some y3/\DataW.trod enc P W base spare held k c.type [v4]=some y4/\DataW.trod enc P W base spare held k d.type [v5]=some y5/\DataW.trod enc P W base spare held k l.type [v6,v7,v8]=some y6/\(∀m∈y4.1.weights P c.type,m∈x.1.weights P e)/\(∀m∈y5.1.weights P d.type,m∈x.1.weights P e):=by
 obtain⟨xs,k,_,r,a,IV,b⟩:=DataW.trod_struct p h;rw [J] at a
 match xs,IV,cs,a with
 | [y0,y1,y2,y3,y4,y5,y6],_, [v0,v1,v2,v3,v4,v5,v6,v7,v8],_=>
  obtain⟨s,t,u,v,w,y,z⟩:=nw (b 0 f rfl) (b 1 g rfl) (b 2 i rfl) (b 3 j rfl) (b 4 c rfl) (b 5 d rfl) (b 6 l rfl);simp [K,L,M,N,O,Q,R,A,C,D,E,F,G,I] at s t u v w y z;have o:x.1= .agg [y0.1,y1.1,y2.1,y3.1,y4.1,y5.1,y6.1]:=by rw [r];rfl
  refine⟨v0,v1,v2,v3,v4,v5,v6,v7,v8,y0,y1,y2,y3,y4,y5,y6,k,rfl,o,s,t,u,v,w,y,z,λm q=>?_,λm q=>?_⟩
  .rw [o];simp [DataW.weights,p,DataW.weightsEach,q]
  .rw [o];simp [DataW.weights,p,DataW.weightsEach,q]
def AU {n:Int} (h:(Lit.int .i64 n).wf=true):n<=9223372036854775807:=by
 have:=h;simp [Lit.wf] at this;omega
def LE {d:DataW H} {pl:List MemPlace} (h:DataW.trod enc prog W base spare held fuel 38 [v]=some (d,pl)) (T:∀n∈d.weights prog 38,n<=reachBytes):
  ∃a n c l,v= .slice a n c/\kX W a n l/\24*n<=140737488355328:=by
 rcases open_slice underlying38 h with ⟨og,_⟩|⟨x,e,t,m,k,D,Pl,og,_,hl,hm,B4,hd,s⟩
 .simp only [List.cons.injEq,and_true] at og;exact⟨none,0,0, [],og,⟨rfl,λ_=>rfl,(λx s=>by cases s),λq w=>by cases w⟩,dV _⟩
 .simp only [List.cons.injEq,and_true] at og;simp only [Prod.mk.injEq] at hd;replace hd:=hd.1;subst hd;have xQ:e<=m:=by rw [B4];split <;> omega
  have I:=T ((((List.range e).map D).length+((List.range (m-e)).map λj=>D (e+j)).length)*prog.bytesOf 112) (by simp [DataW.weights,underlying38]);rw [Pe] at I;simp only [List.length_map,List.length_range,reachBytes] at I;rw [Dk] at s;have g:∀i,i<e->∃q:P3,W.cell? (x.add (i*3))=some (iV q.1)/\W.cell? (x.add (i*3+1))=some (iV q.2.1)/\W.cell? (x.add (i*3+2))=some (iV q.2.2)/\q.1<=9223372036854775807/\q.2.1<=9223372036854775807/\q.2.2<=9223372036854775807:=by
   intro i r;obtain⟨N,O,P⟩:=s i (by omega);obtain⟨_,J,db⟩:=World.cells?_some O;obtain⟨v0,v1,v2,y0,y1,y2,k',rfl,_,Q,R,S⟩:=Xx underlying112 Dk rfl rfl rfl fT fT fT P;obtain⟨X,K,_,w0⟩:=DataW.trod_int underlying3 Q;obtain⟨Y,L,_,w1⟩:=DataW.trod_int underlying3 R;obtain⟨Z,M,_,w2⟩:=DataW.trod_int underlying3 S;simp only [List.cons.injEq,and_true] at K L M;subst K L M;have E:=db 0 (by omega);have F:=db 1 (by omega);have G:=db 2 (by omega);rw [add_add] at E F G;exact⟨(X,Y,Z),by simpa using E,by simpa using F,by simpa using G,AU w0,AU w1,AU w2⟩
  obtain⟨f,u⟩:=choose_lt g;refine⟨some x,e,t,(List.range e).map f,og,⟨by simp,(λh=>by cases h),λy U i r=>?_,λq w=>?_⟩,by omega⟩
  .cases U;have ny:i<e:=(by simpa using r);obtain⟨z,A,C,_⟩:=u i ny;obtain⟨z0,_⟩:=u 0 (by omega);obtain⟨b,o,p⟩:=x;have TV:p=none:=(by simpa [Addr.add] using World.cell?_spot z0);subst TV;rw [aN] at z A C;exact⟨b,o,rfl,by simpa using z,by simpa [Nat.add_assoc] using A,by simpa [Nat.add_assoc] using C⟩
  .obtain⟨i,r,rfl⟩:=List.mem_map.1 w;exact(u i (List.mem_range.1 r)).2.2.2
def kX.old {W:World} {a:Option Addr} {l:List P3} (h:kX W a n l):∀x,a=some x->0<n->x.block<W.heap.size:=λx e d=>by
 obtain⟨b,o,rfl,c,_⟩:=h.2.2.1 x e 0 (by rw [h.1];exact d);exact World.block_lt_of_cell? _ _ c
def vT {d:DataW H} {J:List MemPlace} (h:DataW.trod enc prog W base spare held fuel 23 [v]=some (d,J)) (P:∀n∈d.weights prog 23,n<=reachBytes):
  ∃a n c,v= .slice a n c/\mK W W.heap.size a n/\104*n<=140737488355328:=by
 rcases open_slice underlying23 h with ⟨og,_⟩|⟨x,e,G,m,k,D,Pl,og,_,hl,F,B4,hd,p⟩
 .simp only [List.cons.injEq,and_true] at og;exact⟨none,0,0,og,⟨λ_=>rfl,(λx p=>by cases p)⟩,dV _⟩
 .simp only [List.cons.injEq,and_true] at og;simp only [Prod.mk.injEq] at hd;replace hd:=hd.1;subst hd;have xQ:e<=m:=by rw [B4];split <;> omega
  have K:=P ((((List.range e).map D).length+((List.range (m-e)).map λj=>D (e+j)).length)*prog.bytesOf 42) (by simp [DataW.weights,underlying23]);rw [TU] at K;simp only [List.length_map,List.length_range,reachBytes] at K;rw [AT] at p;have g:∀i,i<e->∀n∈(D i).weights prog 42,n<=reachBytes:=λi E n hn=>P n (by
   simp only [DataW.weights,underlying23];exact List.mem_cons_of_mem _ (List.mem_append_left _ (pH (List.mem_map.2 ⟨i,List.mem_range.2 E,rfl⟩) hn)))
  refine⟨some x,e,G,og,⟨(λh=>by cases h),λy hy i E=>?_⟩,by omega⟩;cases hy;obtain⟨cs',e1,e2⟩:=p i (by omega);obtain⟨_,L,db⟩:=World.cells?_some e1;obtain⟨v0,v1,v2,v3,v4,v5,v6,v7,v8,y0,y1,y2,y3,y4,y5,y6,k',rfl,_,g0,g1,g2,g3,g4,g5,g6,I,akW⟩:=YJ underlying42 AT rfl rfl rfl rfl rfl rfl rfl fT fT fT fT yP AS vS e2;obtain⟨a,na,ca,l,rfl,N,hb,hc,ie⟩:=om g4 (λm F=>g i E m (I m F));obtain⟨pa,pn,pc,J,rfl,M,nA⟩:=LE g5 (λm F=>g i E m (akW m F));obtain⟨u6,u7,u8,t6,t7,t8,k6,O,_,s6,s7,s8⟩:=Xx underlying40 vS rfl rfl rfl fT fT fT g6;simp only [List.cons.injEq,and_true] at O;obtain⟨rfl,rfl,rfl⟩:=O;obtain⟨n0,Q,_,w0⟩:=DataW.trod_int underlying3 g0;obtain⟨n1,R,_,w1⟩:=DataW.trod_int underlying3 g1;obtain⟨n2,S,_,w2⟩:=DataW.trod_int underlying3 g2;obtain⟨n3,T,_,w3⟩:=DataW.trod_int underlying3 g3;obtain⟨n6,U,_,w6⟩:=DataW.trod_int underlying3 s6;obtain⟨n7,X,_,w7⟩:=DataW.trod_int underlying3 s7;obtain⟨n8,Y,_,w8⟩:=DataW.trod_int underlying3 s8;simp only [List.cons.injEq,and_true] at Q R S T U X Y;subst Q R S T U X Y;have f:=db 0 (by omega);have r:=db 1 (by omega);have s:=db 2 (by omega);have t:=db 3 (by omega);have u:=db 4 (by omega);have w:=db 5 (by omega);have z:=db 6 (by omega);have A:=db 7 (by omega);have C:=db 8 (by omega);rw [add_add] at f r s t u w z A C;obtain⟨cs0,z1,z2⟩:=p 0 (by omega);obtain⟨b0,b1,b2,b3,b4,b5,b6,b7,b8,_,_,_,_,_,_,_,_,rfl,_⟩:=YJ underlying42 AT rfl rfl rfl rfl rfl rfl rfl fT fT fT fT yP AS vS z2;obtain⟨_,_,afX⟩:=World.cells?_some z1;have Z:=afX 0 (by omega);rw [add_add] at Z;obtain⟨b,o,q⟩:=x;have TV:q=none:=by simpa [Addr.add] using World.cell?_spot Z
  subst TV;rw [aN] at f r s t u w z A C;simp at f r s t u w z A C;exact⟨b,o,rfl,World.block_lt_of_cell? _ _ f,n0,n1,n2,n3,a,na,ca,pa,pn,pc,n6,n7,n8,l,J,f,by simpa [Nat.add_assoc] using r,by simpa [Nat.add_assoc] using s,by simpa [Nat.add_assoc] using t,by simpa [Nat.add_assoc] using u,by simpa [Nat.add_assoc] using w,by simpa [Nat.add_assoc] using z,by simpa [Nat.add_assoc] using A,by simpa [Nat.add_assoc] using C,⟨AU w1,AU w2,N,hb,hc,ie,N.old,M,M.old,nA⟩⟩
end
end
structure TW (w wr:World) (B q p r s j:Nat):Prop where
 b:Below B w wr
 x:∃A,E5 wr q A p r s (2*j+1)/\∀g,A g->B<=g
 lo:B<=wr.heap.size
def TW.step {wr:World} {B r:Nat} {A:Nat->Prop} (e:Below B w wr) (mi:B<=wr.heap.size) (b:∀g,A g->B<=g) (h:ec wr w' q A p r s (2*j+1)):TW w w' B q p r s (j+1):=by
 obtain⟨A',c,a,d⟩:=h;exact⟨e.trans (a.below b mi),⟨A',c,λg f=>(d g f).elim (b g) (λh=>by omega)⟩,j3 mi a.size⟩
def qH (bL k1 k2 k3:Int) (a:Option Addr) (n c:Nat) (l:List Int) (S:Option Addr) (k sc:Nat) (w:World) (hs:Src w a n l) (hl:Bytes l) (hn:n<=140737488355328) (lg:n<=c) (IJ:mK w w.heap.size S k) (ie:104*k<=140737488355328):
  Calls prog 6 #[iV bL, .slice a n c, .slice S k sc,iV k1,iV k2,iV k3] w λe w'=>e= .returned (.bool true)/\bW w w':=by
 have m1:=LD bL a n c l w hs hn lg;have C:=yh IJ;have W:=yh hl;clear hs IJ hl;go_in;go_wp2_with fail;refine m1.mono ?_;rintro e w1 ⟨q,rfl,L⟩;have m2:=Pc w1;have D:=yh L;clear m1 L;go_wp2_with fail;refine bM m2 λw2 bd=>?_;obtain⟨ar,hq,Iy⟩:=D.o;have dC:=ar.size;have eu:=bd.size;have dP:Yh (bW w w2):=ar.trans (bd.mono dC);clear m2 D;rcases Iy with jF|⟨F,F2,O,p,r,s,im,m,YW,mi⟩
 .have Ci:=(bd.block q (aq jF)).trans jF;have c0:=aM Ci;clear bd ar jF Ci;go_wp2;go_ret;exact⟨rfl,dP.o⟩
 .have J:=TT m YW W.o;have io:=m.later bd;have HR:Yh (TW w w2 w.heap.size q p r s 0):=yh ⟨dP.o,⟨λg=>F g\/F2 g\/O g,⟨F,_,F2,_,O,_,0,_,_,_,_,_,_,_,_,io,J,λg f=>(by
   rcases f with f|f|f|f|f
   .exact .inl f
   .exact f.elim
   .exact .inr (.inl f)
   .exact f.elim
   .exact .inr (.inr f)),dV _,dV _,dV _⟩,λg f=>mi g f⟩,by omega⟩
  have c0:=io.c0;have c1:=io.c1;clear ar bd m YW mi J io;go_wp2;clear c0 c1;go_loopw [15] (λi wr=>∃j:Nat,j<=k/\i=iV (j:Int)/\TW w wr w.heap.size q p r s j) (λi _=>k-(intOf i).toNat);case atStart=>exact⟨0,dV _,rfl,HR.o⟩
  case round=>
   obtain⟨j,hj,rfl,bD⟩:=hrel;by_cases bq:j<k
   .have cC:(j:Int)<(k:Int):=(by omega);obtain⟨y,rfl⟩:∃y,S=some y:=by
     cases S with
     |none=>have:=C.o.1 rfl;omega
     |some y=>exact⟨y,rfl⟩
    obtain⟨b,o,rfl,Mu,M,E,t,u,G,I,H,N,Q,P,x,R,z,d,pl,e0,e1,e2,e3,e4,e5,e6,e7,e8,ho⟩:=(C.o.lQ bD.b).2 y rfl j bq;obtain⟨hb,⟨A0,⟨F',P',v,X',Z,S',c',v1,v2,v3,v4,ss,ts,rs,us,m,J,L9,xw,tz,pf⟩,mi⟩,Xm⟩:=bD;have bF:=aJ wr (.cells (j2 M E t u G I H N Q P x R z) 42);have iG:=m.later bF;have abv:=λg f=>mi g (L9 g f);have BA:=ho.lQ (bF.mono Xm);obtain⟨xq,K⟩:=BA.akV (A':=λg=>F' g\/P' g\/v g\/X' g\/Z g) abv (j3 Xm bF.size);have m3:=Pa (A:=λg=>F' g\/P' g\/v g\/X' g\/Z g) iG J (λg f=>f) iG.under xw tz pf (by omega) M E t u G I H N Q P x R z BA.g BA.A d xq BA.b BA.n pl K BA.pn;have xU:(wr.alloc (.cells (j2 M E t u G I H N Q P x R z) 42)).heap[wr.heap.size]? =some (.cells (j2 M E t u G I H N Q P x R z) 42 (0,0)):=heap_alloc_new _ _;obtain⟨z0,z1,z2,z3,z4,z5,z6,z7,z8⟩:=iZ xU;have T:=yh (hb.trans (bF.mono Xm));have X:Yh (w.heap.size<=(wr.alloc (.cells (j2 M E t u G I H N Q P x R z) 42)).heap.size):=j3 Xm bF.size;have U:=yh abv;clear hb m J bF iG ho BA xq K mi L9 abv xU;go_wp2_with fail;refine bM m3 λw4 afY=>?_;have Y:=yh (TW.step T.o X.o U.o afY);clear m3 afY e0 e1 e2 e3 e4 e5 e6 e7 e8;go_wp2;go_roundw;case rel=>exact⟨j+1,by omega,by go_num,Y.o⟩
    case measure=>simp [intOf];omega
   .obtain rfl:j=k:=(by omega);have wj:¬(j:Int)<(j:Int):=(by omega);have T:=yh bD.b;clear bD;go_wp2;go_ret;exact⟨rfl,T.o⟩
end Go.Proofs.YtcpdggdfihjhoabGreat
