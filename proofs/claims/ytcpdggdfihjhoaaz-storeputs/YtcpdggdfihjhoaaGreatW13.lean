import Derived.Test.YtcpdggdfihjhoaaGreatW01
import Derived.Test.YtcpdggdfihjhoaaGreatW05
import Derived.Test.YtcpdggdfihjhoaaGreatW12
import Derived.Deep.OwnRows
import Derived.ProofKit
import Derived.OpenShut
import Derived.ShutString
import Derived.ChangeOld
import Derived.SizedLaws
import Derived.Deep.Slices
set_option maxRecDepth 20000
set_option maxHeartbeats 8000000
set_option linter.all false
namespace Go.Proofs.YtcpdggdfihjhoaaGreat
open Go.Proofs.Tryz
open Go.RowKit Go.Maps
variable {S:DS} {A ag:Int} {L:LG} {d im l:List Int} {N a c dc dn f fuel j n p pn q s:Nat} {F:Nat->Prop} {da pa:Option Addr} {G:SG} {v:Value} {w w':World}
section
section
variable {S:DS} {s:Nat}
def AU {S:DS} (h:S.fuse= -1):S.gq.fuse= -1:=by
 unfold DS.gq;simp only;rw [aB (by omega)];exact h
def rA {S:DS} (h:S.fuse= -1) (s:Nat) (x:Int) (n:Nat) (l:List Int):(S.wr s x n l).2.fuse= -1:=by
 unfold DS.wr;split
 .exact h
 .split
  .exact h
  .split
   .exact h
   .exact AU h
def rB {S:DS} (h:S.fuse= -1) (s:Nat):(S.fl s).2.fuse= -1:=by
 unfold DS.fl;split
 .exact h
 .exact AU h
def oX {S:DS} (h:S.fuse= -1) {g:Nat->DS->Int×DS} (a:∀k T,T.fuse= -1->(g k T).2.fuse= -1):∀n,(cB S g n).2.fuse= -1
 |0=>h
 |n+1=>by
  unfold cB;split
  .exact oX h a n
  .exact a n _ (oX h a n)
def LM {S:DS} (h:S.fuse= -1) (s f n:Nat):(cN S s f n).2.fuse= -1:=by
 have a:(bE S s f (n+2)).2.fuse= -1:=oX h (λk T b=>rA b _ _ _ _) _;unfold cN;split
 .exact a
 .exact rB a s
def Dn {S:DS} (h:S.fuse= -1) (s f:Nat) (num:Int):(cZ S s f num).2.fuse= -1:=by
 unfold cZ;split
 .exact h
 .split
  .exact h
  .split
   .exact rA h _ _ _ _
   .exact rB (rA h _ _ _ _) _
def IP {r:List Int} (c:l.length=512) (d:r.length=512) (a:1<=N) (b:N<9223372036854775808) (h:(am l r).2.1<N):
    (am (yS l r (aP l r (N:Int) []).1 (aP l r (N:Int) []).2.1).1 (yS l r (aP l r (N:Int) []).1 (aP l r (N:Int) []).2.1).2).2=(N, [],0):=by
 have e:(aP l r (N:Int) [])=if (am l r).2.2.2=0/\(am l r).1=0 then (1,bh (cG (r.getD 0 0) (r.getD 511 0)) (aS N ++ []),0) else (0,bh (cG (l.getD 0 0) (l.getD 511 0)) (aS N ++ []),0):=by
  unfold aP;rw [aB (by omega),aB (by omega),aB (by simp)];simp only;rw [aB (by omega),Int.toNat_natCast]
 rw [e];by_cases q:(am l r).2.2.2=0/\(am l r).1=0
 .rw [aG q];have:=tM (data:= []) c d b a (by simp) h (t:=cG (r.getD 0 0) (r.getD 511 0)) (by have:=gv (r.getD 0 0) (r.getD 511 0);omega) 1 (by rw [aG q]);simp only;rw [this]
 .rw [aB q];have:=tM (data:= []) c d b a (by simp) h (t:=cG (l.getD 0 0) (l.getD 511 0)) (by have:=gv (l.getD 0 0) (l.getD 511 0);omega) 0 (by rw [aB q]);simp only;rw [this]
def LN {S:DS} {s:Nat} (h:S.Ok s) (c:f+1<s) (b:1<=N) (g:N<9223372036854775808) (bq:S.num f<N) (h0:(cZ S s f (N:Int)).1=0):(am ((cZ S s f (N:Int)).2.now f) ((cZ S s f (N:Int)).2.now (f+1))).2=(N, [],0)/\∀j,j<s->j≠f->j≠f+1->(cZ S s f (N:Int)).2.now j=S.now j:=by
 have d:=bu h f (by omega);have e:=bu h (f+1) c;have du:=iD d e b bq;have a:=IP d e b g bq;have mV:=fU (S.now f) (S.now (f+1)) (N:Int) [];have Fv:=kQ (S.now f) (S.now (f+1)) (N:Int) [] du;unfold cZ at*;split at h0
 .simp at h0
 .rename_i zz;rw [aB zz];rw [aB (by omega)] at h0⊢;generalize aP (S.now f) (S.now (f+1)) (N:Int) []=Y at*;rw [show (f:Int)+(Y.1:Int)=((f+Y.1:Nat):Int) by omega] at h0⊢;have VQ:(S.wr s ((f+Y.1:Nat):Int) 512 Y.2.1).1=0:=by rw [o8 zz (by omega)]
  rw [aB (by omega)] at h0⊢;have NU:=ug h zz (show f+Y.1<s by omega) Fv;refine⟨?_,λj i l m=>?_⟩
  .rw [eY NU (by omega),eY NU c,jL zz (by omega),jL zz (by omega)];unfold yS at a;by_cases q:Y.1=0
   .rw [q] at a⊢;rw [aG (by omega),aB (by omega)];rw [aG rfl] at a;exact a
   .have k:Y.1=1:=(by omega);rw [k] at a⊢;rw [aB (by omega),aG rfl];rw [aB (by omega)] at a;exact a
  .rw [eY NU i,jL zz (by omega),aB (by omega)]
def IQ:(aX (zs 512)).2≠0\/(aX (zs 512)).1.length<12:=by
 have a:dJ (zs 512)= []:=by
  unfold dJ;rw [show dN (zs 512)=0 from by unfold dN;rw [show (zs 512).getD 1 0=0 from rfl,show (zs 512).getD 2 0=0 from rfl];rfl];exact List.take_zero
 unfold aX;rw [aB (by rw [bH];omega)];unfold fA;rw [a];split
 .left;show (30:Nat)≠0;omega
 .rename_i b h;right;split at h
  .cases h;show (0:Nat)<12;omega
  .cases h
def xo:(dj (zs 512)).d= []/\(dj (zs 512)).e=0:=by
 unfold dj;rw [aG IQ];exact⟨rfl,rfl⟩
def Do {R:Nat->PC}:∀k,(∀i,i<k->(R i).e=0)->gO R k=0
 |0,_=>rfl
 |k+1,h=>by
  show (if (R k).e<=1073741824 then max (gO R k) (R k).e else gO R k)=0;rw [h k (by omega),Do k (λi a=>h i (by omega))];rfl
def T6 {S:DS} {s:Nat} (h:S.Ok s) (i:f+2+n<=s) (h0:(cN S s f n).1=0):∀j,j<n+2->(cN S s f n).2.now (f+j)=zs 512:=λj c=>by
 obtain⟨d,a,g,b⟩:=lI (f:=f) h (n:=n+2) (by omega) (n+2) (bS _);unfold cN at*;by_cases e:(bE S s f (n+2)).1=0
 .rw [aB (by omega),eY a (by omega)];exact b e j c
 .rw [aG e] at h0;exact absurd h0 e
def I1 (h:S.Ok s) (k:S.fuse= -1) {b:Nat} (oJ:a+2+b<=s) (ar:18<=b) (bd:b<=256):
    (cD S s a b).1=0/\(cD S s a b).2.fuse= -1/\b9 (cD S s a b).2 a=(1,0,0)/\∀j,j<b->(cD S s a b).2.now (a+2+j)=zs 512:=by
 have Zi:cy S s (a:Int) (b:Int)=0:=by
  unfold cy;rw [aB (by omega),aB (by omega),aB (by omega),aB (by omega)]
 unfold cD;rw [aB (by omega)];simp only [Int.toNat_natCast];have du:S.take.Ok s:=⟨h.len,h.lo,h.hi,h.puts,h.fuse⟩;obtain⟨t,c,o,p⟩:=kS (f:=a) (n:=b) du oJ;have A9:=LM (S:=S.take) k s a b;have h0:=Decidable.byContradiction (λe=>by have:=o e;omega);have m:=T6 du oJ h0;obtain⟨g,u⟩:=p h0;rw [aB (by omega)];have l:=iD (bu c a (by omega)) (bu c (a+1) (by omega)) (N:=4294967296) (by omega) (by show DS.num _ a<_;rw [g];omega);have By:(cZ (cN S.take s a b).2 s a 4294967296).2.fuse= -1:=Dn A9 s a _;have d:(cZ (cN S.take s a b).2 s a 4294967296).1=0:=Decidable.byContradiction (λe=>by have i:=(qd (num:=4294967296) (by omega) l e).1;rw [By] at i;omega);obtain⟨w1,q⟩:=LN (s:=s) (f:=a) (N:=4294967296) c (by omega) (by omega) (by omega) (by rw [g];omega) d;refine⟨d,By,?_,λj r=>?_⟩
 .unfold b9 ik;generalize am ((cZ (cN S.take s a b).2 s a 4294967296).2.now a) ((cZ (cN S.take s a b).2 s a 4294967296).2.now (a+1))=X at*;have w1:=w1;rw [w1];decide
 .have:=q (a+2+j) (by omega) (by omega) (by omega);refine Eq.trans this ?_;rw [show a+2+j=a+(2+j) by omega];exact m (2+j) (by omega)
def Pk {b:Nat} (k:S.Ok s) (n:S.fuse= -1) (oJ:a+2+b<=s) (ar:18<=b) (bd:b<=256) (g:b9 S a=(1,0,0)) (u:∀j,j<b->S.now (a+2+j)=zs 512):
    (bA S s a b).1=0/\(bA S s a b).2.fuse= -1/\(bA S s a b).2.life=wrap64 (S.life+1)/\(∀rs hd,dF (Rp (dZ S a) b) (b9 S a).1 (b9 S a).2.1 rs hd->rs= []/\hd=0)/\ir S a b=1:=by
 have Zi:cy S s (a:Int) (b:Int)=0:=by
  unfold cy;rw [aB (by omega),aB (by omega),aB (by omega),aB (by omega)]
 have m:∀j,j<b->(dZ S a j).e=0/\(dZ S a j).d= []:=λj r=>by
  unfold dZ;rw [u j r];exact⟨xo.2,xo.1⟩
 have t:ir S a b=1:=by
  unfold ir;rw [Do b (λi q=>(m i q).1),g];rfl
 have o:bA S s (a:Int) (b:Int)=S.take.fl s:=by
  unfold bA;rw [aB (by omega),Int.toNat_natCast,Int.toNat_natCast,aB (by rw [g];decide),aB (by omega)]
 rw [o];have f:=rB (S:=S.take) n s;refine⟨Decidable.byContradiction (λe=>by have:=(ly e).2.1;have:S.take.fuse= -1:=n;omega),f,fX _ _,λrs hd An=>?_,t⟩;rw [g] at An;cases rs with
 |nil=>exact⟨rfl,An⟩
 |cons x xs=>
  obtain⟨c,f,_⟩:=An;have l:=(f.2.2.1 0 (by have:=f.1;omega)).2.2.2.2.1;have p:Rp (dZ S a) b (0+0)=dZ S a 0:=by unfold Rp;rw [Nat.add_zero,Nat.zero_mod]
  rw [p,(m 0 (by omega)).2] at l;simp at l
end
end
section
section
variable {S S2:DS} {s h0:Nat} {x:Int}
def xm:∀{ms:CM} {S:DS},S.fuse= -1->(aE S s h0 ms).2.fuse= -1
 | [],_,h=>h
 |q :: qs,S,h=>by
  have a:=rA h s ((h0+q.1:Nat):Int) 512 q.2;unfold aE;split
  .exact a
  .exact xm a
def Dp:∀{ms:CM} {S:DS},S.fuse= -1->(∀q∈ms,h0+q.1<s/\q.2=zs 512)->(∀j,j<s->S.now j=zs 512)->∀j,j<s->(aE S s h0 ms).2.now j=zs 512
 | [],_,_,_,hz=>hz
 |q :: qs,S,h,hm,hz=>by
  obtain⟨d,e⟩:=hm q (List.mem_cons_self ..);have a:∀j,j<s->(S.wr s ((h0+q.1:Nat):Int) 512 q.2).2.now j=zs 512:=λj b=>by
   rw [jL (by omega) d];split
   .exact e
   .exact hz j b
  unfold aE;split
  .exact a
  .exact Dp (rA h s ((h0+q.1:Nat):Int) 512 q.2) (λx c=>hm x (List.mem_cons_of_mem _ c)) a
def E6 (d:a+n<=s):∀q∈fb n,a+q.1<s/\q.2=zs 512:=λq b=>by
 unfold fb at b;obtain⟨i,c,rfl⟩:=List.mem_map.1 b;have:=List.mem_range.1 c;exact⟨by show a+i<s;omega,rfl⟩
def Fo (a:S.fuse= -1):(S.fl s).1=0:=Decidable.byContradiction (λe=>by have:=(ly e).2.1;omega)
def AV (du:S.Ok s) (f:S.fuse= -1) (b:a+n<=s) (r:∀j,j<s->S.now j=zs 512):(eC S s a n).1=0/\(eC S s a n).2.fuse= -1/\(eC S s a n).2.Ok s/\(eC S s a n).2.puts= []/\(∀j,j<s->(eC S s a n).2.now j=zs 512):=by
 obtain⟨k,_,_,l⟩:=qK du b;obtain⟨_,_,m,o,_⟩:=eD (h0:=a) (ms:=fb n) du (λq i=>⟨(E6 b q i).1,by rw [(E6 b q i).2];exact bH 512⟩);have c:=xm (s:=s) (h0:=a) (ms:=fb n) f;have p:=Decidable.byContradiction (λe=>by have:=o e;omega);have e:eC S s a n=(aE S s a (fb n)).2.fl s:=by unfold eC;rw [aB (λh=>h p)]
 have d:(eC S s a n).1=0:=by rw [e];exact Fo c
 refine⟨d,by rw [e];exact rB c s,k,l d,λj g=>?_⟩;rw [e,eY m g];exact(Dp (s:=s) (h0:=a) f (E6 b) r) j g
def abC {k:Nat} (c:k<s) (l:List Int) (b:j≠k):(S.wr s (k:Int) 512 l).2.now j=S.now j:=by
 by_cases a:S.fuse=0
 .unfold DS.wr;rw [aG a]
 .rw [jL a c,aB b]
def AW {f j:Nat}:∀k,f+k<=s->f+k<=j->(bE S s f k).2.now j=S.now j
 |0,_,_=>rfl
 |k+1,h1,h2=>by
  have a:(bE S s f k).2.now j=S.now j:=AW k (by omega) (by omega);show (cB S _ (k+1)).2.now j=_;unfold cB;split
  .exact a
  .exact(abC (k:=f+k) (by omega) _ (by omega)).trans a
def IR {b:Nat} (du:S.Ok s) (oJ:a+2+b<=s) (k:a+2+b<=j) (c:j<s):(cD S s (a:Int) (b:Int)).2.now j=S.now j:=by
 have pN:S.take.Ok s:=⟨du.len,du.lo,du.hi,du.puts,du.fuse⟩;obtain⟨_,g,_,_⟩:=lI (f:=a) pN (n:=b+2) (by omega) (b+2) (bS _);have d:(bE S.take s a (b+2)).2.now j=S.now j:=AW (S:=S.take) (b+2) (by omega) (by omega);have e:(cN S.take s a b).2.now j=S.now j:=by
  unfold cN;split
  .exact d
  .exact(eY g c).trans d
 obtain⟨_,i,_,_⟩:=kS (f:=a) (n:=b) pN oJ;unfold cD;split
 .rfl
 .simp only [Int.toNat_natCast];split
  .exact e
  .exact((nW i (by omega) _).2 j (by omega) c).trans e
def E7 (n k:Nat):(bB n k).take n=bB n k:=nz (by rw [aK];omega)
def T7 {b:Nat} (j:vJ a b c):mM (gW a b c) a/\(cE (gW a b c)).log=b/\(cE (gW a b c)).home=3+b/\(cE (gW a b c)).blocks=a-(3+b):=by
 have RE:=j;obtain⟨⟨l,n⟩,⟨o,p⟩,r,s,t⟩:=j;have e:=kz a b c;have uR:gz.length=8:=rfl;have i:∀q m,q+m<=508->part (eV (bP a b c)) q m=part (bP a b c) q m:=λq m h=>iX _ _ _ _ (by rw [dG];exact h);have g:u32 (eV (bP a b c)) 8=a:=by
  unfold u32;rw [i 8 4 (by omega)];unfold bP;rw [iX _ _ _ _ (by simp only [ed,aK,uR];omega),iX _ _ _ _ (by simp only [ed,aK,uR];omega),iX _ _ _ _ (by simp only [ed,aK,uR];omega),qF _ _ _ _ uR.symm,E7,At _ _ (by omega)]
 have d:u32 (eV (bP a b c)) 12=b:=by
  unfold u32;rw [i 12 4 (by omega)];unfold bP;rw [iX _ _ _ _ (by simp only [ed,aK,uR];omega),iX _ _ _ _ (by simp only [ed,aK,uR];omega),qF _ _ _ _ (by simp only [ed,aK,uR]),E7,At _ _ (by omega)]
 have f:u32 (eV (bP a b c)) 16=c:=by
  unfold u32;rw [i 16 4 (by omega)];unfold bP;rw [iX _ _ _ _ (by simp only [ed,aK,uR];omega),qF _ _ _ _ (by simp only [ed,aK,uR]),E7,At _ _ (by omega)]
 have k:Bytes (eV (bP a b c)):=(ib _ _ _).append (iR _ _);refine⟨⟨(De k e).2 ⟨?_,?_⟩,g⟩,?_,?_,?_⟩
 .rw [g,d,f];exact RE
 .rw [g,d,f]
 .unfold cE;exact d
 .unfold cE;show 3+u32 _ 12=_;rw [d]
 .unfold cE;show u32 _ 8-(3+u32 _ 12)=_;rw [g,d]
def E8 {b:Nat} (du:S.Ok a) (dC:S.fL) (Y:S.fuse= -1) (we:0<=S.life) (cu:S.life<=1) (q:vJ a b c) (Z:∀j,j<a->S.now j=zs 512):
    (bY S a a b c).1=0/\(bY S a a b c).2.fuse= -1/\(bY S a a b c).2.Ok a/\(bY S a a b c).2.puts= []/\(bY S a a b c).2.now 0=gW a b c/\b9 (bY S a a b c).2 1=(1,0,0)/\∀j,3<=j->j<a->(bY S a a b c).2.now j=zs 512:=by
 obtain⟨⟨O,P⟩,⟨Q,R⟩,T,U,W⟩:=q;have q:vJ a b c:=⟨⟨O,P⟩,⟨Q,R⟩,T,U,W⟩;have pN:S.take.Ok a:=⟨du.len,du.lo,du.hi,du.puts,du.fuse⟩;have J:bY S a a b c=lL S a b c:=by
  unfold bY;rw [aB (by omega)]
  haveI:=Sm (a:Int) (b:Int) (c:Int)
  rw [aG ⟨q,rfl⟩,Int.toNat_natCast,Int.toNat_natCast]
 obtain⟨u,v,w,G,x⟩:=AV (s:=a) (a:=0) (n:=1) pN Y (by omega) (λj r=>Z j r);have y:=kw dC.take a 0 1;have z:=uO S.take a 0 1;have M:mg S a=eC S.take a 0 1:=rfl;rw [<-M] at u v w G x y z;obtain⟨A,C,e,D,E⟩:=AV (s:=a) (a:=1) (n:=a-1) w v (by omega) x;have H:=kw y a 1 (a-1);have I:=(uO (mg S a).2 a 1 (a-1)).trans z;have N:ni S a=eC (mg S a).2 a 1 (a-1):=rfl;rw [<-N] at A C e D E H I;have bq:S.take.life=S.life+1:=by show wrap64 (S.life+1)=_;unfold wrap64;omega
 obtain⟨g,i,k,l⟩:=I1 (a:=1) (b:=b) e C (by omega) (by omega) (by omega);obtain⟨m,_,d3⟩:=sd (S:=(ni S a).2) (s:=a) (t:=10) e (by omega) (by omega) (by omega) (by omega) D 1 (b:Int);have abD:∀j,3+b<=j->j<a->(cD (ni S a).2 a 1 (b:Int)).2.now j=zs 512:=λj X d=>(IR (a:=1) (b:=b) e (by omega) (by omega) d).trans (E j d);have g:(jT S a b).1=0:=g;have i:(jT S a b).2.fuse= -1:=i;have k:b9 (jT S a b).2 1=(1,0,0):=k;have l:∀j,j<b->(jT S a b).2.now (1+2+j)=zs 512:=l;have m:(jT S a b).2.Ok a:=m;have abD:∀j,3+b<=j->j<a->(jT S a b).2.now j=zs 512:=abD;have mV:(gW a b c).length=512:=kz _ _ _;have p:mh S a b c=(jT S a b).2.wr a ((0:Nat):Int) 512 (gW a b c):=rfl;have K:(mh S a b c).1=0:=by rw [p,o8 (by omega) (by omega)]
 have o:(mh S a b c).2.fuse= -1:=rA i _ _ _ _;have F:(mh S a b c).2.Ok a:=by rw [p];exact ug m (by omega) (by omega) mV
 have f:∀j,(mh S a b c).2.now j=if j=0 then gW a b c else (jT S a b).2.now j:=λj=>by rw [p];exact jL (by omega) (by omega) _ j
 have L:lL S a b c=(mh S a b c).2.fl a:=by
  unfold lL;rw [aB (λh=>h u),aB (λh=>h A),aB (λh=>h g),aB (λh=>h K)]
 rw [J,L];have jX:∀j,j<a->((mh S a b c).2.fl a).2.now j=(mh S a b c).2.now j:=λj r=>eY F r;refine⟨Fo o,rB o a,si F,jn (Fo o),?_,?_,λj X d=>?_⟩
 .rw [jX 0 (by omega),f 0,aG rfl]
 .have o1:((mh S a b c).2.fl a).2.now 1=(jT S a b).2.now 1:=by rw [jX 1 (by omega),f 1,aB (by omega)]
  have o2:((mh S a b c).2.fl a).2.now 2=(jT S a b).2.now 2:=by rw [jX 2 (by omega),f 2,aB (by omega)]
  rw [<-k];unfold b9;rw [o1,o2]
 .rw [jX j d,f j,aB (by omega)];by_cases h3:j<3+b
  .have:=l (j-3) (by omega);rwa [show 1+2+(j-3)=j by omega] at this
  .exact abD j (by omega) d
def IS (a:S.fuse= -1):(L.start S s).2.1.fuse= -1:=by
 unfold LG.start;split
 .exact a
 .split
  .exact a
  .split <;> exact Dn a _ _ _
def IT:(L.start S s).2.2.life=L.life:=by
 unfold LG.start;split
 .rfl
 .split
  .rfl
  .split <;> rfl
def tp.life (h:tp S s L):L.life=wrap64 (S.life+1):=by
 obtain⟨rs,hd,ov,_,_,rfl⟩:=h;exact IT
def LP (du:S.Ok s) (dC:S.fL) (l:S.fuse= -1) (qL:mM (S.now 0) s) (u:b9 S 1=(1,0,0)) (y:∀j,j<(cE (S.now 0)).log->S.now (1+2+j)=zs 512) (v:j1 S s x S2):x=0/\S2.fuse= -1/\∀j,3<=j->j<s->S2.now j=S.now j:=by
 have uL:=ky qL;obtain⟨n,D,E,o,F⟩:=Pk (a:=1) (b:=(cE (S.now 0)).log) du l (by omega) (by omega) (by omega) u y;have IH:(bA S s 1 (((cE (S.now 0)).log:Nat):Int)).1=0:=n;obtain⟨_,m,C,mn⟩:=mb (f:=1) IH;have Re:bA S s 1 (((cE (S.now 0)).log:Nat):Int)=S.take.fl s:=mn;have pN:S.take.Ok s:=⟨du.len,du.lo,du.hi,du.puts,du.fuse⟩;rcases v with ⟨r,A,rfl⟩|⟨_,_,k⟩
 .exfalso;rcases r with ⟨d,_,_⟩|⟨_,_,_,e⟩|⟨_,c,_,_⟩
  .omega
  .exact A e
  .exact c qL
 .rcases k with ⟨p,z,_⟩|⟨_,rs,hd,FB,k⟩
  .exact absurd (p.symm.trans IH) z
  .obtain⟨rfl,rfl⟩:=o rs hd FB.t;rcases k with ⟨d,_,_⟩|⟨ov,uW,k⟩
   .cases d
   .have w:eu (bA S s 1 (((cE (S.now 0)).log:Nat):Int)).2 s (cE (S.now 0)) ov []=(0,(bA S s 1 (((cE (S.now 0)).log:Nat):Int)).2):=(by unfold eu;rw [aG rfl]);rw [w] at k;rcases k with ⟨d,c,_⟩|⟨_,c,rfl⟩
    .exact absurd d.symm c
    .have xN:=yt (s:=s) FB dC m C (by omega) (by omega) (by omega);have JL:S.num 1<((fh S 1 (cE (S.now 0)).log 0).top+1)*4294967296:=EL m;rw [Re] at c⊢;have af2:=si (s:=s) pN;have M7:∀j,j<s->(S.take.fl s).2.now j=S.now j:=λj q=>eY (S:=S.take) pN q;have fB:(S.take.fl s).2.num (fh S 1 (cE (S.now 0)).log 0).f<((fh S 1 (cE (S.now 0)).log 0).top+1)*4294967296:=by
      show (S.take.fl s).2.num 1<_;rw [vN (S:=S) (S':=(S.take.fl s).2) (M7 1 (by omega)) (M7 2 (by omega))];exact JL
     have SQ:(fh S 1 (cE (S.now 0)).log 0).life=(S.take.fl s).2.life:=(fX S.take s).symm;have g:=rB (S:=S.take) l s;have Fv:=IS (s:=s) (L:=fh S 1 (cE (S.now 0)).log 0) g;refine⟨Decidable.byContradiction (λe=>?_),Fv,λj G i=>?_⟩
     .have:=(Dk af2 xN rfl SQ fB (by show ((fh S 1 (cE (S.now 0)).log 0).start (S.take.fl s).2 s).1≠0;rw [c];exact e)).1;omega
     .refine Eq.trans ?_ (M7 j i);show ((fh S 1 (cE (S.now 0)).log 0).start (S.take.fl s).2 s).2.1.now j=_;unfold LG.start;split
      .rfl
      .split
       .rfl
       .split <;> exact(nW af2 (by show 1+1<s;omega) _).2 j (by show 1+2<=j;omega) i
end
end
def Pv (a:j<s):(DS.fresh (List.replicate (s*512) 0)).now j=zs 512:=by
 show bM (List.replicate (s*512) 0) j=zs 512;unfold bM zs;rw [List.drop_replicate,List.take_replicate];congr 1;omega
structure abE (S:DS):Prop where
 c:(bY S 30 30 18 4).1=0
 f:(bY S 30 30 18 4).2.fuse= -1
 i:V.Inv (bY S 30 30 18 4).2 30 [] 3
 u:mM ((bY S 30 30 18 4).2.now 0) 30
 l:(cE ((bY S 30 30 18 4).2.now 0)).log=18
 h:(cE ((bY S 30 30 18 4).2.now 0)).home=21
 b:(cE ((bY S 30 30 18 4).2.now 0)).blocks=9
 n:b9 (bY S 30 30 18 4).2 1=(1,0,0)
 z:∀j,3<=j->j<30->(bY S 30 30 18 4).2.now j=zs 512
def Xs (du:S.Ok 30) (dC:S.fL) (r:S.puts.length=0) (p:S.fuse= -1) (v:S.life=1) (s:∀j,j<30->S.now j=zs 512):abE S:=by
 have e:vJ (30:Nat) (18:Nat) (4:Nat):=by unfold vJ;decide
 obtain⟨f,g,t,u,d,i,k⟩:=E8 (a:=30) (b:=18) (c:=4) du dC p (by omega) (by omega) e s;obtain⟨l,m,n,o⟩:=T7 e;have q:V.Inv S 30 [] 1:=V.Inv.zero du dC r (by omega) (by omega);have d:(bY S 30 30 18 4).2.now 0=gW 30 18 4:=d;exact⟨f,g,q.afh (by omega) 30 18 4,by rw [d];exact l,by rw [d];exact m,by rw [d];exact n,by rw [d];exact o,i,k⟩
def IU (hd:G.L.dead S=false) (a:G.busy=false):G.begin S=0:=by
 unfold SG.begin;rw [hd,a];rfl
def E9 {b:Int} (hd:G.L.dead S=false) (h0:0<=b) (d:b<(G.y.blocks:Int)):(⟨[],0,false⟩:TG).refusal G S b=0:=by
 have a:(⟨[],0,false⟩:TG).bT G S=0:=by unfold TG.bT;rw [hd];rfl
 have c:(⟨[],0,false⟩:TG).state G S=0:=by unfold TG.state;rw [a];rfl
 unfold TG.refusal;rw [c,aB (λh=>h rfl),aB (by omega)]
def Pm (w:World):Calls prog 10 #[] w λe w'=>e= .returned (.bool true)/\bW w w':=by
 have D:=P7 30 w (by omega) (by omega);rw [show ((30:Nat):Int)=30 from rfl] at D;go_in;go_wp2_with fail;refine D.mono ?_;rintro e w1 ⟨p,rfl,iN,ar⟩;have af3:B.ax w1 (λk=>w.heap.size<=k/\k<w1.heap.size) p 30 (DS.fresh (List.replicate (30*512) 0)) 0:=⟨0,iN,λ_=>⟨Int.le_refl _,Int.le_refl _⟩⟩;have hm:=Xs iN.ok ⟨Bytes.tL _,λq v=>by cases v⟩ rfl rfl rfl (λj J=>Pv J);have dC:(DS.fresh (List.replicate (30*512) 0)).fL:=⟨Bytes.tL _,λq v=>by cases v⟩;have sO:(DS.fresh (List.replicate (30*512) 0)).puts.length=0:=rfl;generalize DS.fresh (List.replicate (30*512) 0)=X at*;have af4:∀k,(λk=>w.heap.size<=k/\k<w1.heap.size) k->w.heap.size<=k:=λk C=>C.1;have aeU:∀k,(λk=>w.heap.size<=k/\k<w1.heap.size) k->k<w1.heap.size:=λk C=>C.2;generalize (λk=>w.heap.size<=k/\k<w1.heap.size)=U at*;have E:=wQ af3 dC 30 18 4 (by omega);obtain⟨Q,m2,R,m4,m5,m6,m7,m8,S⟩:=hm;rw [Q] at E;generalize (bY X 30 30 18 4).2=b at*;obtain⟨cQ,r,G,af5,F⟩:=eK ar R S af4 ar.size;clear D iN af3 ar dC sO Q R S af4;go_wp2_with fail;refine fR E λw2 cI aY=>?_;obtain⟨K,an0,ig,zz2⟩:=cO (AO cI r.qf (by have:=r.p6;omega)) cI.lt aY aY.size;clear E cI aY;go_wp2_with fail;refine K.mono ?_;rintro e w3 ⟨x,c,Y,_,mi,aZ,IJ⟩;obtain⟨y,n2,n3⟩:=LP r.ok r.qf m2 m4 m8 (λj J=>G (1+2+j) (by omega) (by omega)) mi;rcases IJ with ⟨a,_⟩|⟨_,q,l,m,L,F',mV,rfl,YN,v,hl,hm',bw⟩
 .exact absurd y a
 .have SQ:L.life=c.life:=by
   rw [mV.life];rcases mi.life with ⟨_,s⟩|s
   .exact absurd y s
   .exact s.symm
  have YV:L.dead c=false:=by
   unfold LG.dead;rw [SQ,n2];simp
  have M:=(sS bw).mono (λe w' h=>by unfold sR at h;rw [aB (λh=>h (IU YV rfl))] at h;exact h);obtain⟨u9,gZ,W,lS,A,zz3⟩:=jF (((r.fA (by omega) mi).2 y L mV).p6) bw mi aZ YN aZ.size;clear K bw mi aZ YN mV y;go_wp2_with fail;refine M.mono ?_;rintro e T ⟨t,n,rfl,Wm,ht4,YB,af6,Td,af7,dW⟩;have T0:it T F' p 30 Y q l m c ⟨cE (b.now 0),L, [],true⟩:=⟨gZ.d.aw dW (λg f e=>gZ.nq (e▸f)),af7,gZ.lp.aw dW (λe=>gZ.ql e.symm),gZ.ch.aw dW (λe=>gZ.qm e.symm),gZ.nq,gZ.nl,gZ.nm,gZ.ql,gZ.qm,gZ.lm,gZ.lk,gZ.bg,gZ.hs,gZ.kb⟩;obtain⟨rP,Bc,j6,Cc⟩:=cO gZ.d.lt gZ.st.lt gZ.lp.lt gZ.ch.lt;have AR:mH T F' q l m t n ⟨cE (b.now 0),L, [],true⟩ ⟨[],0,false⟩:=⟨af6,Td,λa=>by have:=rP _ a;omega,λa=>by have:=rP _ a;omega,by omega,by omega,by omega,YB,by omega,by omega,by omega,λx a=>by cases a⟩;have u:(⟨[],0,false⟩:TG).refusal ⟨cE (b.now 0),L, [],true⟩ c 8=0:=E9 YV (by omega) (by show 8<((cE (b.now 0)).blocks:Int);omega);have DH:(⟨[],0,false⟩:TG).jZ ⟨cE (b.now 0),L, [],true⟩ c (8:Int).toNat=zs 512:=by
   show c.now ((cE (b.now 0)).home+8)=zs 512;rw [m6,n3 29 (by omega) (by omega)];exact G 29 (by omega) (by omega)
  have N:=(El T0 AR 8 (by omega)).mono (λe w' h=>by rw [DH] at h;unfold vD at h;rw [aB (λh=>h u)] at h;exact h);have Mk:=dW;have zz4:=dW.size;clear M af6 Td af7 dW T0 AR u DH;go_wp2_with fail;refine N.mono ?_;rintro e w5 ⟨⟨I,rfl,Gz,aV⟩,jH,dX⟩;have i:=aV;have fa:bW w w5:=by
   have H:∀g,more U w1 w2 g->w.heap.size<=g:=λg f=>f.elim (af5 g) (λh=>by omega);have Z:=λg f=>(A g f).elim (H g) (λh=>by omega);exact(((cQ.trans (ig.below af5 F)).trans (lS.below H (by omega))).trans (Mk.below (λg f=>by omega) (by omega))).trans (dX.below Z (by omega))
  have jr:=fa;have zz5:=dX.size;clear N aV jH dX fa;have Yj:(Instr.makeSlice 36 (iV 512) (iV 512)).run prog w5= .ok (.slice (some (aD w5.heap.size 0)) 512 512) (w5.alloc (.cells (madeCells #[.int .u8 0] 512) 5)):=run_make_row' (P:=prog) 36 5 (.int .u8 0) 1 underlying36 gh rfl .i64 .i64 512 (by omega) (by omega) w5;obtain⟨z,MN⟩:=bQ (w5.alloc (.cells (madeCells #[.int .u8 0] 512) 5));rw [<-MN] at Yj;have nI:bW w5 z:=by rw [MN];exact aJ _ _
  have BA:ay z 5 w5.heap.size 512 (bs (zs 512)):=by
   rw [MN];exact lW (World.ownsRow_lit (base:=w5.heap.size) w5 (madeCells #[.int .u8 0] 512) 512 (bS _) (by unfold maxLen;omega) (by simp [madeCells]))
  have Ut:Src z (some (aD w5.heap.size 0)) 512 (zs 512):=by have:=BA.src;rwa [bH] at this
  have O:=pA (some (aD I 0)) (some (aD w5.heap.size 0)) 512 512 512 (zs 512) z (by omega) (by
    have s:=(i.aw (nI.block I i.lt)).src (o:=0) (n:=512) (by have:=bH 512;omega);rwa [List.drop_zero,nz (by rw [bH];omega)] at s) Ut
  have xy:=(jr.trans (nI.mono (by omega)));have zz6:=nI.size;clear BA nI Ut MN;go_wp2_with fail;refine bN O λw7 xB=>?_;have FA:=(xy.trans (xB.mono (by omega)));clear O xB;go_wp2;go_ret;exact⟨rfl,FA⟩
abbrev Po (p r:Value):Array Value:= #[p,r, .slice none 0 0, .slice none 0 0, .slice none 0 0, .slice none 0 0]
def Fa (w w':World) (l:List Int) (q:Nat):Prop:=
 bW w w'/\w.heap.size<=q/\(w'.heap[q]? =some (.cells (Po (.pointer none) (.pointer none)) 35 (0,0))\/
  ∃(F F2 O:Nat->Prop) (p r s:Nat) (im:List Int),W5 w' q F (λ_=>False) F2 (λ_=>False) O p r s (DS.fresh im) (DS.fresh im) 0 (.slice none 0 0) (.slice none 0 0) (.slice none 0 0) (.slice none 0 0) [] [] [] []/\(im=l\/∃m,im=List.replicate m 0)/\∀g,(F g\/F2 g\/O g)->w.heap.size<=g)
def abF {w1:World} {G:Nat->Prop} {r:Nat} (h:Two w1 w.heap.size F G p r s (DS.fresh im) (DS.fresh im)) (j:w.heap.size<=w1.heap.size):
  ∃O,W5 (w1.alloc (.cells (Po (pV p) (pV r)) 35)) w1.heap.size F (λ_=>False) G (λ_=>False) O p r s (DS.fresh im) (DS.fresh im) 0 (.slice none 0 0) (.slice none 0 0) (.slice none 0 0) (.slice none 0 0) [] [] [] []/\∀g,(F g\/G g\/O g)->w.heap.size<=g:=by
 have f:=aJ w1 (.cells (Po (pV p) (pV r)) 35);have hd:B.ax w1 F p s (DS.fresh im) 0:=⟨0,h.d,λ_=>⟨Int.le_refl _,Int.le_refl _⟩⟩;have i:=h.e.later f;have ee:(w1.alloc (.cells (Po (pV p) (pV r)) 35)).heap.size=w1.heap.size+1:=by simp
 have c:∀g,(Value.slice none 0 0).ownBlock=some g->False:=λg e=>by simp [Value.ownBlock] at e
 refine⟨λg=>g=w1.heap.size,⟨heap_alloc_new _ _,rfl,λg e=>by omega,⟨hd.later f,λ_ h=>h.elim,λ_ h=>h.elim,λ_ h=>(by cases h),λ_ h=>(by cases h),List.nodup_nil,List.nodup_nil,List.nodup_nil,List.nodup_nil⟩,⟨i,λ_ h=>h.elim,λ_ h=>h.elim,λ_ h=>(by cases h),λ_ h=>(by cases h),List.nodup_nil,List.nodup_nil,List.nodup_nil,λ_ _ _ _ h=>(by simp at h),λ_ _ _ _ h=>(by simp at h),λ_ h=>(by cases h)⟩,World.ownsRow_nil _ _ _ _,λg e=>(c g e).elim,World.ownsRow_nil _ _ _ _,λg e=>(c g e).elim,World.ownsRow_nil _ _ _ _,λg e=>(c g e).elim,World.ownsRow_nil _ _ _ _,λg e=>(c g e).elim,λg b a=>?_,λg e a=>?_,λg e a=>?_⟩,λg b=>?_⟩
 .rcases b with b|b
  .rcases a with a|a
   .exact h.fM g b a
   .exact a
  .exact b
 .rcases a with a|a
  .have:=hd.lt g a;omega
  .exact a
 .rcases a with a|a
  .have:=h.e.lt g a;omega
  .exact a
 .rcases b with b|b|b
  .exact h.fF g b
  .exact h.fG g b
  .omega
def LQ (bM:Int) (a:Option Addr) (n c:Nat) (l:List Int) (w:World) (g:Src w a n l) (u:n<=140737488355328) (iZ:n<=c):
  Calls prog 9 #[iV bM, .slice a n c] w λe w'=>∃q,e= .returned (.tuple #[pV q, .bool true])/\Fa w w' l q:=by
 have f:=N8 bM a n c l w w.heap.size (bS _) g u iZ;clear g;go_in;go_wp2_with fail;refine f.mono ?_;rintro e w1 ⟨d,r,rfl,ar,⟨rfl,rfl⟩|⟨F,G,p,q,s,im,rfl,rfl,i,t,m,o⟩⟩
 .have b:(Fa w (w1.alloc (.cells (Po (.pointer none) (.pointer none)) 35)) l w1.heap.size):=⟨ar.trans ((aJ w1 _).mono ar.size),ar.size, .inl (heap_alloc_new _ _)⟩;clear f ar;go_wp2;go_ret2;exact⟨_,rfl,b⟩
 .have b:(Fa w (w1.alloc (.cells (Po (pV p) (pV q)) 35)) l w1.heap.size):=by
   obtain⟨O,j,k⟩:=abF i ar.size;exact⟨ar.trans ((aJ w1 _).mono ar.size),ar.size, .inr ⟨F,G,O,p,q,s,im,j,t,k⟩⟩
  clear f ar i m o;go_wp2;go_ret2;exact⟨_,rfl,b⟩
def T8 {r:Nat} {F2 O:Nat->Prop} (h:W5 w q F (λ_=>False) F2 (λ_=>False) O p r s (DS.fresh im) (DS.fresh im) 0 (.slice none 0 0) (.slice none 0 0) (.slice none 0 0) (.slice none 0 0) [] [] [] []) (b:im=l\/∃m,im=List.replicate m 0) (a:Bytes l):Lk (DS.fresh im) s 1 [] [] [] []:=by
 refine⟨rfl,λ_ _ _ h=>(by simp at h),rfl,λ_ _ _ h=>(by simp at h),V.Inv.zero h.pw.d.ok ⟨?_,λq c=>by cases c⟩ rfl (show (0:Int)<=1 by decide) (show (1:Int)<=1 by decide),λ_ _ _ h=>(by simp at h),λ_ h=>(by cases h),λ_ _ _ h=>(by simp at h),rfl⟩;rcases b with rfl|⟨m,rfl⟩
 .exact a
 .exact Bytes.tL m
section
open Go.ChangeShapes Go.WideShapes Go.ChangeAt Go.RowKit Go.Deep
def Pp:prog.bytesOf 115=24:=by kernel_rfl
def T9:prog.bytesOf 41=104:=by kernel_rfl
def AX:prog.cellsOf 37=1:=by kernel_rfl
def Dq:prog.cellsOf 115=3:=by kernel_rfl
def vX:prog.cellsOf 39=3:=by kernel_rfl
def AY:prog.cellsOf 41=9:=by kernel_rfl
structure Pq (w:World) (B:Nat) (ag A:Int) (da:Option Addr) (dn dc:Nat) (pa:Option Addr) (pn:Nat) (d:List Int) (pl:List P3):Prop where
 g:ag<=9223372036854775807
 A:A<=9223372036854775807
 s:Src w da dn d
 b:Bytes d
 c:dn<=dc
 n:dn<=140737488355328
 l:∀y,da=some y->0<dn->y.block<B
 p:lf w pa pn pl
 pq:∀y,pa=some y->0<pn->y.block<B
 pn:24*pn<=140737488355328
def Pq.lU {B:Nat} {e:List P3} (h:Pq w B ag A da dn dc pa pn d e) (a:Below B w w'):Pq w' B ag A da dn dc pa pn d e:=
   ⟨h.g,h.A,h.s.lU a h.l,h.b,h.c,h.n,h.l,h.p.lU a h.pq,h.pq,h.pn⟩
def Pq.ak7 {A':Nat->Prop} {B:Nat} {e:List P3} (h:Pq w B ag A da dn dc pa pn d e) (b:∀g,A' g->B<=g) (c:B<=w.heap.size):(∀W,aa A' w W->Src W da dn d)/\∀W,aa A' w W->lf W pa pn e:=
   ⟨λ_ a=>h.s.lU (a.below b c) h.l,λ_ a=>h.p.lU (a.below b c) h.pq⟩
def kF (w:World) (B:Nat) (sa:Option Addr) (n:Nat):Prop:=
   (sa=none->n=0)/\∀y,sa=some y->∀i,i<n->∃b o,y=(aD b o)/\b<B/\∃kd ag A B' da dn dc pa pn pc x y' z d pl,
  w.cell? ⟨b,o+i*9,none⟩=some (iV kd)/\w.cell? ⟨b,o+i*9+1,none⟩=some (iV ag)/\w.cell? ⟨b,o+i*9+2,none⟩=some (iV A)/\w.cell? ⟨b,o+i*9+3,none⟩=some (iV B')/\w.cell? ⟨b,o+i*9+4,none⟩=some (.slice da dn dc)/\w.cell? ⟨b,o+i*9+5,none⟩=some (.slice pa pn pc)/\w.cell? ⟨b,o+i*9+6,none⟩=some (iV x)/\w.cell? ⟨b,o+i*9+7,none⟩=some (iV y')/\w.cell? ⟨b,o+i*9+8,none⟩=some (iV z)/\Pq w B ag A da dn dc pa pn d pl
def kF.lU {B:Nat} {f:Option Addr} (h:kF w B f n) (c:Below B w w'):kF w' B f n:=by
 refine⟨h.1,λy F i D=>?_⟩;obtain⟨b,o,rfl,MD,G,g,A,B',u,C,v,H,K,I,x,L,z,d,J,j,k,l,m,p,q,r,s,t,E⟩:=h.2 y F i D;have e:=c.block b MD;exact⟨b,o,rfl,MD,G,g,A,B',u,C,v,H,K,I,x,L,z,d,J,(World.cell?_of_block (w:=w) (a:=(aD b _)) e).trans j,(World.cell?_of_block (w:=w) (a:=(aD b _)) e).trans k,(World.cell?_of_block (w:=w) (a:=(aD b _)) e).trans l,(World.cell?_of_block (w:=w) (a:=(aD b _)) e).trans m,(World.cell?_of_block (w:=w) (a:=(aD b _)) e).trans p,(World.cell?_of_block (w:=w) (a:=(aD b _)) e).trans q,(World.cell?_of_block (w:=w) (a:=(aD b _)) e).trans r,(World.cell?_of_block (w:=w) (a:=(aD b _)) e).trans s,(World.cell?_of_block (w:=w) (a:=(aD b _)) e).trans t,E.lU c⟩
section
variable {H:Type} {enc:TypeId×Value->H} {W:World} {base:Nat} {spare:Nat->Bool} {held:Bool}
def YW {P:Program} {e:TypeId} {f g i j c d l:Field} {cs:List Value} {x:DataW H×List MemPlace} (p:P.underlying e=some (.struct #[f,g,i,j,c,d,l])) (J:P.cellsOf e=9) (K:f.offset=0) (L:g.offset=1) (M:i.offset=2) (N:j.offset=3) (O:c.offset=4) (Q:d.offset=5) (R:l.offset=6)
    (A:P.cellsOf f.type=1) (C:P.cellsOf g.type=1) (D:P.cellsOf i.type=1) (E:P.cellsOf j.type=1) (F:P.cellsOf c.type=1) (G:P.cellsOf d.type=1) (I:P.cellsOf l.type=3) (h:DataW.trod enc P W base spare held n e cs=some x):
  ∃v0 v1 v2 v3 v4 v5 v6 v7 v8 y0 y1 y2 y3 y4 y5 y6 k,cs= [v0,v1,v2,v3,v4,v5,v6,v7,v8]/\x.1= .agg [y0.1,y1.1,y2.1,y3.1,y4.1,y5.1,y6.1]/\DataW.trod enc P W base spare held k f.type [v0]=some y0/\DataW.trod enc P W base spare held k g.type [v1]=some y1/\DataW.trod enc P W base spare held k i.type [v2]=some y2/\DataW.trod enc P W base spare held k j.type [v3]=some y3/\DataW.trod enc P W base spare held k c.type [v4]=some y4/\DataW.trod enc P W base spare held k d.type [v5]=some y5/\DataW.trod enc P W base spare held k l.type [v6,v7,v8]=some y6/\(∀m∈y4.1.weights P c.type,m∈x.1.weights P e)/\(∀m∈y5.1.weights P d.type,m∈x.1.weights P e):=by
 obtain⟨xs,k,_,r,a,I7,b⟩:=DataW.trod_struct p h;rw [J] at a
 match xs,I7,cs,a with
 | [y0,y1,y2,y3,y4,y5,y6],_, [v0,v1,v2,v3,v4,v5,v6,v7,v8],_=>
  obtain⟨s,t,u,v,w,y,z⟩:=nA (b 0 f rfl) (b 1 g rfl) (b 2 i rfl) (b 3 j rfl) (b 4 c rfl) (b 5 d rfl) (b 6 l rfl);simp [K,L,M,N,O,Q,R,A,C,D,E,F,G,I] at s t u v w y z;have o:x.1= .agg [y0.1,y1.1,y2.1,y3.1,y4.1,y5.1,y6.1]:=by rw [r];rfl
  refine⟨v0,v1,v2,v3,v4,v5,v6,v7,v8,y0,y1,y2,y3,y4,y5,y6,k,rfl,o,s,t,u,v,w,y,z,λm q=>?_,λm q=>?_⟩
  .rw [o];simp [DataW.weights,p,DataW.weightsEach,q]
  .rw [o];simp [DataW.weights,p,DataW.weightsEach,q]
def AZ {n:Int} (h:(Lit.int .i64 n).wf=true):n<=9223372036854775807:=by
 have:=h;simp [Lit.wf] at this;omega
def LR {d:DataW H} {pl:List MemPlace} (h:DataW.trod enc prog W base spare held fuel 37 [v]=some (d,pl)) (T:∀n∈d.weights prog 37,n<=reachBytes):
  ∃a n c l,v= .slice a n c/\lf W a n l/\24*n<=140737488355328:=by
 rcases open_slice underlying37 h with ⟨ou,_⟩|⟨x,e,t,m,k,D,Pl,ou,_,hl,hm,B9,hd,s⟩
 .simp only [List.cons.injEq,and_true] at ou;exact⟨none,0,0, [],ou,⟨rfl,λ_=>rfl,(λx s=>by cases s),λq w=>by cases w⟩,dV _⟩
 .simp only [List.cons.injEq,and_true] at ou;simp only [Prod.mk.injEq] at hd;replace hd:=hd.1;subst hd;have xU:e<=m:=by rw [B9];split <;> omega
  have I:=T ((((List.range e).map D).length+((List.range (m-e)).map λj=>D (e+j)).length)*prog.bytesOf 115) (by simp [DataW.weights,underlying37]);rw [Pp] at I;simp only [List.length_map,List.length_range,reachBytes] at I;rw [Dq] at s;have g:∀i,i<e->∃q:P3,W.cell? (x.add (i*3))=some (iV q.1)/\W.cell? (x.add (i*3+1))=some (iV q.2.1)/\W.cell? (x.add (i*3+2))=some (iV q.2.2)/\q.1<=9223372036854775807/\q.2.1<=9223372036854775807/\q.2.2<=9223372036854775807:=by
   intro i r;obtain⟨N,O,P⟩:=s i (by omega);obtain⟨_,J,db⟩:=World.cells?_some O;obtain⟨v0,v1,v2,y0,y1,y2,k',rfl,_,Q,R,S⟩:=XL underlying115 Dq rfl rfl rfl fT fT fT P;obtain⟨X,K,_,w0⟩:=DataW.trod_int underlying3 Q;obtain⟨Y,L,_,w1⟩:=DataW.trod_int underlying3 R;obtain⟨Z,M,_,w2⟩:=DataW.trod_int underlying3 S;simp only [List.cons.injEq,and_true] at K L M;subst K L M;have E:=db 0 (by omega);have F:=db 1 (by omega);have G:=db 2 (by omega);rw [add_add] at E F G;exact⟨(X,Y,Z),by simpa using E,by simpa using F,by simpa using G,AZ w0,AZ w1,AZ w2⟩
  obtain⟨f,u⟩:=choose_lt g;refine⟨some x,e,t,(List.range e).map f,ou,⟨by simp,(λh=>by cases h),λy U i r=>?_,λq w=>?_⟩,by omega⟩
  .cases U;have nC:i<e:=(by simpa using r);obtain⟨z,A,C,_⟩:=u i nC;obtain⟨z0,_⟩:=u 0 (by omega);obtain⟨b,o,p⟩:=x;have Ua:p=none:=(by simpa [Addr.add] using World.cell?_spot z0);subst Ua;rw [aN] at z A C;exact⟨b,o,rfl,by simpa using z,by simpa [Nat.add_assoc] using A,by simpa [Nat.add_assoc] using C⟩
  .obtain⟨i,r,rfl⟩:=List.mem_map.1 w;exact(u i (List.mem_range.1 r)).2.2.2
def lf.old {W:World} {a:Option Addr} {l:List P3} (h:lf W a n l):∀x,a=some x->0<n->x.block<W.heap.size:=λx e d=>by
 obtain⟨b,o,rfl,c,_⟩:=h.2.2.1 x e 0 (by rw [h.1];exact d);exact World.block_lt_of_cell? _ _ c
def oe {d:DataW H} {J:List MemPlace} (h:DataW.trod enc prog W base spare held fuel 22 [v]=some (d,J)) (P:∀n∈d.weights prog 22,n<=reachBytes):
  ∃a n c,v= .slice a n c/\kF W W.heap.size a n/\104*n<=140737488355328:=by
 rcases open_slice underlying22 h with ⟨ou,_⟩|⟨x,e,G,m,k,D,Pl,ou,_,hl,F,B9,hd,p⟩
 .simp only [List.cons.injEq,and_true] at ou;exact⟨none,0,0,ou,⟨λ_=>rfl,(λx p=>by cases p)⟩,dV _⟩
 .simp only [List.cons.injEq,and_true] at ou;simp only [Prod.mk.injEq] at hd;replace hd:=hd.1;subst hd;have xU:e<=m:=by rw [B9];split <;> omega
  have K:=P ((((List.range e).map D).length+((List.range (m-e)).map λj=>D (e+j)).length)*prog.bytesOf 41) (by simp [DataW.weights,underlying22]);rw [T9] at K;simp only [List.length_map,List.length_range,reachBytes] at K;rw [AY] at p;have g:∀i,i<e->∀n∈(D i).weights prog 41,n<=reachBytes:=λi E n hn=>P n (by
   simp only [DataW.weights,underlying22];exact List.mem_cons_of_mem _ (List.mem_append_left _ (pM (List.mem_map.2 ⟨i,List.mem_range.2 E,rfl⟩) hn)))
  refine⟨some x,e,G,ou,⟨(λh=>by cases h),λy hy i E=>?_⟩,by omega⟩;cases hy;obtain⟨cs',e1,e2⟩:=p i (by omega);obtain⟨_,L,db⟩:=World.cells?_some e1;obtain⟨v0,v1,v2,v3,v4,v5,v6,v7,v8,y0,y1,y2,y3,y4,y5,y6,k',rfl,_,g0,g1,g2,g3,g4,g5,g6,I,ak8⟩:=YW underlying41 AY rfl rfl rfl rfl rfl rfl rfl fT fT fT fT yT AX vX e2;obtain⟨a,na,ca,l,rfl,N,hb,hc,gu⟩:=j8 g4 (λm F=>g i E m (I m F));obtain⟨pa,pn,pc,J,rfl,M,nE⟩:=LR g5 (λm F=>g i E m (ak8 m F));obtain⟨u6,u7,u8,t6,t7,t8,k6,O,_,s6,s7,s8⟩:=XL underlying39 vX rfl rfl rfl fT fT fT g6;simp only [List.cons.injEq,and_true] at O;obtain⟨rfl,rfl,rfl⟩:=O;obtain⟨n0,Q,_,w0⟩:=DataW.trod_int underlying3 g0;obtain⟨n1,R,_,w1⟩:=DataW.trod_int underlying3 g1;obtain⟨n2,S,_,w2⟩:=DataW.trod_int underlying3 g2;obtain⟨n3,T,_,w3⟩:=DataW.trod_int underlying3 g3;obtain⟨n6,U,_,w6⟩:=DataW.trod_int underlying3 s6;obtain⟨n7,X,_,w7⟩:=DataW.trod_int underlying3 s7;obtain⟨n8,Y,_,w8⟩:=DataW.trod_int underlying3 s8;simp only [List.cons.injEq,and_true] at Q R S T U X Y;subst Q R S T U X Y;have f:=db 0 (by omega);have r:=db 1 (by omega);have s:=db 2 (by omega);have t:=db 3 (by omega);have u:=db 4 (by omega);have w:=db 5 (by omega);have z:=db 6 (by omega);have A:=db 7 (by omega);have C:=db 8 (by omega);rw [add_add] at f r s t u w z A C;obtain⟨cs0,z1,z2⟩:=p 0 (by omega);obtain⟨b0,b1,b2,b3,b4,b5,b6,b7,b8,_,_,_,_,_,_,_,_,rfl,_⟩:=YW underlying41 AY rfl rfl rfl rfl rfl rfl rfl fT fT fT fT yT AX vX z2;obtain⟨_,_,af8⟩:=World.cells?_some z1;have Z:=af8 0 (by omega);rw [add_add] at Z;obtain⟨b,o,q⟩:=x;have Ua:q=none:=by simpa [Addr.add] using World.cell?_spot Z
  subst Ua;rw [aN] at f r s t u w z A C;simp at f r s t u w z A C;exact⟨b,o,rfl,World.block_lt_of_cell? _ _ f,n0,n1,n2,n3,a,na,ca,pa,pn,pc,n6,n7,n8,l,J,f,by simpa [Nat.add_assoc] using r,by simpa [Nat.add_assoc] using s,by simpa [Nat.add_assoc] using t,by simpa [Nat.add_assoc] using u,by simpa [Nat.add_assoc] using w,by simpa [Nat.add_assoc] using z,by simpa [Nat.add_assoc] using A,by simpa [Nat.add_assoc] using C,⟨AZ w1,AZ w2,N,hb,hc,gu,N.old,M,M.old,nE⟩⟩
end
end
structure Ub (w wr:World) (B q p r s j:Nat):Prop where
 b:Below B w wr
 x:∃A,E5 wr q A p r s (2*j+1)/\∀g,A g->B<=g
 lo:B<=wr.heap.size
def Ub.step {wr:World} {B r:Nat} {A:Nat->Prop} (e:Below B w wr) (mn:B<=wr.heap.size) (b:∀g,A g->B<=g) (h:ec wr w' q A p r s (2*j+1)):Ub w w' B q p r s (j+1):=by
 obtain⟨A',c,a,d⟩:=h;exact⟨e.trans (a.below b mn),⟨A',c,λg f=>(d g f).elim (b g) (λh=>by omega)⟩,j4 mn a.size⟩
def kX (bM k1 k2 k3:Int) (a:Option Addr) (n c:Nat) (l:List Int) (S:Option Addr) (k sc:Nat) (w:World) (hs:Src w a n l) (hl:Bytes l) (hn:n<=140737488355328) (iZ:n<=c) (vY:kF w w.heap.size S k) (gu:104*k<=140737488355328):
  Calls prog 14 #[iV bM, .slice a n c, .slice S k sc,iV k1,iV k2,iV k3] w λe w'=>e= .returned (.bool true)/\bW w w':=by
 have m1:=LQ bM a n c l w hs hn iZ;have C:=yh vY;have W:=yh hl;clear hs vY hl;go_in;go_wp2_with fail;refine m1.mono ?_;rintro e w1 ⟨q,rfl,L⟩;have m2:=Pm w1;have D:=yh L;clear m1 L;go_wp2_with fail;refine bN m2 λw2 bd=>?_;obtain⟨ar,hq,IJ⟩:=D.o;have dE:=ar.size;have ev:=bd.size;have dP:Yh (bW w w2):=ar.trans (bd.mono dE);clear m2 D;rcases IJ with jG|⟨F,F2,O,p,r,s,im,m,Zb,mn⟩
 .have Cp:=(bd.block q (aq jG)).trans jG;have c0:=aM Cp;clear bd ar jG Cp;go_wp2;go_ret;exact⟨rfl,dP.o⟩
 .have J:=T8 m Zb W.o;have io:=m.later bd;have HR:Yh (Ub w w2 w.heap.size q p r s 0):=yh ⟨dP.o,⟨λg=>F g\/F2 g\/O g,⟨F,_,F2,_,O,_,0,_,_,_,_,_,_,_,_,io,J,λg f=>(by
   rcases f with f|f|f|f|f
   .exact .inl f
   .exact f.elim
   .exact .inr (.inl f)
   .exact f.elim
   .exact .inr (.inr f)),dV _,dV _,dV _⟩,λg f=>mn g f⟩,by omega⟩
  have c0:=io.c0;have c1:=io.c1;clear ar bd m Zb mn J io;go_wp2;clear c0 c1;go_loopw [15] (λi wr=>∃j:Nat,j<=k/\i=iV (j:Int)/\Ub w wr w.heap.size q p r s j) (λi _=>k-(intOf i).toNat);case atStart=>exact⟨0,dV _,rfl,HR.o⟩
  case round=>
   obtain⟨j,hj,rfl,bD⟩:=hrel;by_cases bq:j<k
   .have cC:(j:Int)<(k:Int):=(by omega);obtain⟨y,rfl⟩:∃y,S=some y:=by
     cases S with
     |none=>have:=C.o.1 rfl;omega
     |some y=>exact⟨y,rfl⟩
    obtain⟨b,o,rfl,MD,M,E,t,u,G,I,H,N,Q,P,x,R,z,d,pl,e0,e1,e2,e3,e4,e5,e6,e7,e8,ho⟩:=(C.o.lU bD.b).2 y rfl j bq;obtain⟨hb,⟨A0,⟨F',P',v,X',Z,S',c',v1,v2,v3,v4,ss,ts,rs,us,m,J,CE,xA,tG,pj⟩,mn⟩,Xt⟩:=bD;have bF:=aJ wr (.cells (j3 M E t u G I H N Q P x R z) 41);have iG:=m.later bF;have abG:=λg f=>mn g (CE g f);have BH:=ho.lU (bF.mono Xt);obtain⟨xw,K⟩:=BH.ak7 (A':=λg=>F' g\/P' g\/v g\/X' g\/Z g) abG (j4 Xt bF.size);have m3:=Pj (A:=λg=>F' g\/P' g\/v g\/X' g\/Z g) iG J (λg f=>f) iG.under xA tG pj (by omega) M E t u G I H N Q P x R z BH.g BH.A d xw BH.b BH.n pl K BH.pn;have xY:(wr.alloc (.cells (j3 M E t u G I H N Q P x R z) 41)).heap[wr.heap.size]? =some (.cells (j3 M E t u G I H N Q P x R z) 41 (0,0)):=heap_alloc_new _ _;obtain⟨z0,z1,z2,z3,z4,z5,z6,z7,z8⟩:=i4 xY;have T:=yh (hb.trans (bF.mono Xt));have X:Yh (w.heap.size<=(wr.alloc (.cells (j3 M E t u G I H N Q P x R z) 41)).heap.size):=j4 Xt bF.size;have U:=yh abG;clear hb m J bF iG ho BH xw K mn CE abG xY;go_wp2_with fail;refine bN m3 λw4 af9=>?_;have Y:=yh (Ub.step T.o X.o U.o af9);clear m3 af9 e0 e1 e2 e3 e4 e5 e6 e7 e8;go_wp2;go_roundw;case rel=>exact⟨j+1,by omega,by go_num,Y.o⟩
    case measure=>simp [intOf];omega
   .obtain rfl:j=k:=(by omega);have wq:¬(j:Int)<(j:Int):=(by omega);have T:=yh bD.b;clear bD;go_wp2;go_ret;exact⟨rfl,T.o⟩
end Go.Proofs.YtcpdggdfihjhoaaGreat
