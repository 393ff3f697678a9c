import Derived.Test.YtenlkgicpllbhaaGreatW01
import Derived.Test.YtenlkgicpllbhaaGreatW09
import Derived.Test.YtenlkgicpllbhaaGreatW22
import Derived.Deep.OwnRows
import Derived.ProofKit
import Derived.OpenShut
import Derived.ShutString
import Derived.ChangeOld
import Derived.SizedLaws
import Derived.Deep.Slices
set_option maxRecDepth 20000
set_option maxHeartbeats 8000000
set_option linter.all false
namespace Go.Proofs.YtenlkgicpllbhaaGreat
open Go.Proofs.Tryz
open Go.RowKit Go.Maps
variable {S:DS} {A ag:Int} {L:LG} {d im l:List Int} {N a c dc dn f fuel j n p pn s:Nat} {F:Nat->Prop} {da pa:Option Addr} {G:SG} {v:Value} {w w':World}
section
section
variable {S:DS} {s:Nat}
theorem AN {S:DS} (h:S.fuse= -1):S.fY.fuse= -1:=by
 unfold DS.fY;simp only;rw [aA (by omega)];exact h
theorem rg {S:DS} (h:S.fuse= -1) (s:Nat) (x:Int) (n:Nat) (l:List Int):(S.wr s x n l).2.fuse= -1:=by
 unfold DS.wr;split
 .exact h
 .split
  .exact h
  .split
   .exact h
   .exact AN h
theorem rh {S:DS} (h:S.fuse= -1) (s:Nat):(S.fl s).2.fuse= -1:=by
 unfold DS.fl;split
 .exact h
 .exact AN h
theorem oK {S:DS} (h:S.fuse= -1) {g:Nat->DS->Int×DS} (a:∀k T,T.fuse= -1->(g k T).2.fuse= -1):∀n,(stepsTo S g n).2.fuse= -1
 |0=>h
 |n+1=>by
  unfold stepsTo;split
  .exact oK h a n
  .exact a n _ (oK h a n)
theorem Lt {S:DS} (h:S.fuse= -1) (s f n:Nat):(cK S s f n).2.fuse= -1:=by
 have a:(bA S s f (n+2)).2.fuse= -1:=oK h (λk T b=>rg b _ _ _ _) _;unfold cK;split
 .exact a
 .exact rh a s
theorem C8 {S:DS} (h:S.fuse= -1) (s f:Nat) (num:Int):(cW S s f num).2.fuse= -1:=by
 unfold cW;split
 .exact h
 .split
  .exact h
  .split
   .exact rg h _ _ _ _
   .exact rh (rg h _ _ _ _) _
theorem IE {r:List Int} (c:l.length=512) (d:r.length=512) (a:1<=N) (b:N<9223372036854775808) (h:(am l r).2.1<N):
    (am (yC l r (aN l r (N:Int) []).1 (aN l r (N:Int) []).2.1).1 (yC l r (aN l r (N:Int) []).1 (aN l r (N:Int) []).2.1).2).2=(N, [],0):=by
 have e:(aN l r (N:Int) [])=if (am l r).2.2.2=0/\(am l r).1=0 then (1,be (cD (r.getD 0 0) (r.getD 511 0)) (aQ N ++ []),0) else (0,be (cD (l.getD 0 0) (l.getD 511 0)) (aQ N ++ []),0):=by
  unfold aN;rw [aA (by omega),aA (by omega),aA (by simp)];simp only;rw [aA (by omega),Int.toNat_natCast]
 rw [e];by_cases q:(am l r).2.2.2=0/\(am l r).1=0
 .rw [aE q];have:=tw (data:= []) c d b a (by simp) h (t:=cD (r.getD 0 0) (r.getD 511 0)) (by have:=gd (r.getD 0 0) (r.getD 511 0);omega) 1 (by rw [aE q]);simp only;rw [this]
 .rw [aA q];have:=tw (data:= []) c d b a (by simp) h (t:=cD (l.getD 0 0) (l.getD 511 0)) (by have:=gd (l.getD 0 0) (l.getD 511 0);omega) 0 (by rw [aA q]);simp only;rw [this]
theorem Lu {S:DS} {s:Nat} (h:S.Ok s) (c:f+1<s) (b:1<=N) (g:N<9223372036854775808) (bm:S.num f<N) (h0:(cW S s f (N:Int)).1=0):(am ((cW S s f (N:Int)).2.now f) ((cW S s f (N:Int)).2.now (f+1))).2=(N, [],0)/\∀j,j<s->j≠f->j≠f+1->(cW S s f (N:Int)).2.now j=S.now j:=by
 have d:=br h f (by omega);have e:=br h (f+1) c;have dh:=is d e b bm;have a:=IE d e b g bm;have mL:=fL (S.now f) (S.now (f+1)) (N:Int) [];have Ff:=kD (S.now f) (S.now (f+1)) (N:Int) [] dh;unfold cW at*;split at h0
 .simp at h0
 .rename_i zi;rw [aA zi];rw [aA (by omega)] at h0⊢;generalize aN (S.now f) (S.now (f+1)) (N:Int) []=Y at*;rw [show (f:Int)+(Y.1:Int)=((f+Y.1:Nat):Int) by omega] at h0⊢;have J4:(S.wr s ((f+Y.1:Nat):Int) 512 Y.2.1).1=0:=by rw [oO zi (by omega)]
  rw [aA (by omega)] at h0⊢;have Nz:=tP h zi (show f+Y.1<s by omega) Ff;refine⟨?_,λj i l m=>?_⟩
  .rw [eU Nz (by omega),eU Nz c,jD zi (by omega),jD zi (by omega)];unfold yC at a;by_cases q:Y.1=0
   .rw [q] at a⊢;rw [aE (by omega),aA (by omega)];rw [aE rfl] at a;exact a
   .have k:Y.1=1:=(by omega);rw [k] at a⊢;rw [aA (by omega),aE rfl];rw [aA (by omega)] at a;exact a
  .rw [eU Nz i,jD zi (by omega),aA (by omega)]
theorem IF:(aR (zs 512)).2≠0\/(aR (zs 512)).1.length<12:=by
 have a:dH (zs 512)= []:=by
  unfold dH;rw [show dM (zs 512)=0 from by unfold dM;rw [show (zs 512).getD 1 0=0 from rfl,show (zs 512).getD 2 0=0 from rfl];rfl];exact List.take_zero
 unfold aR;rw [aA (by rw [bB];omega)];unfold fv;rw [a];split
 .left;show (30:Nat)≠0;omega
 .rename_i b h;right;split at h
  .cases h;show (0:Nat)<12;omega
  .cases h
theorem wF:(cF (zs 512)).d= []/\(cF (zs 512)).e=0:=by
 unfold cF;rw [aE IF];exact⟨rfl,rfl⟩
theorem C9 {R:Nat->PC}:∀k,(∀i,i<k->(R i).e=0)->rtop R k=0
 |0,_=>rfl
 |k+1,h=>by
  show (if (R k).e<=1073741824 then max (rtop R k) (R k).e else rtop R k)=0;rw [h k (by omega),C9 k (λi a=>h i (by omega))];rfl
theorem TE {S:DS} {s:Nat} (h:S.Ok s) (i:f+2+n<=s) (h0:(cK S s f n).1=0):∀j,j<n+2->(cK S s f n).2.now (f+j)=zs 512:=λj c=>by
 obtain⟨d,a,g,b⟩:=lw (f:=f) h (n:=n+2) (by omega) (n+2) (bP _);unfold cK at*;by_cases e:(bA S s f (n+2)).1=0
 .rw [aA (by omega),eU a (by omega)];exact b e j c
 .rw [aE e] at h0;exact absurd h0 e
theorem IP (h:S.Ok s) (k:S.fuse= -1) {b:Nat} (oz:a+2+b<=s) (aq:18<=b) (aW:b<=256):
    (cy S s a b).1=0/\(cy S s a b).2.fuse= -1/\bV (cy S s a b).2 a=(1,0,0)/\∀j,j<b->(cy S s a b).2.now (a+2+j)=zs 512:=by
 have Pa:cq S s (a:Int) (b:Int)=0:=by
  unfold cq;rw [aA (by omega),aA (by omega),aA (by omega),aA (by omega)]
 unfold cy;rw [aA (by omega)];simp only [Int.toNat_natCast];have dh:S.take.Ok s:=⟨h.len,h.lo,h.hi,h.puts,h.fuse⟩;obtain⟨t,c,o,p⟩:=kF (f:=a) (n:=b) dh oz;have A2:=Lt (S:=S.take) k s a b;have h0:=Decidable.byContradiction (λe=>by have:=o e;omega);have m:=TE dh oz h0;obtain⟨g,u⟩:=p h0;rw [aA (by omega)];have l:=is (br c a (by omega)) (br c (a+1) (by omega)) (N:=4294967296) (by omega) (by show DS.num _ a<_;rw [g];omega);have B7:(cW (cK S.take s a b).2 s a 4294967296).2.fuse= -1:=C8 A2 s a _;have d:(cW (cK S.take s a b).2 s a 4294967296).1=0:=Decidable.byContradiction (λe=>by have i:=(pN (num:=4294967296) (by omega) l e).1;rw [B7] at i;omega);obtain⟨w1,q⟩:=Lu (s:=s) (f:=a) (N:=4294967296) c (by omega) (by omega) (by omega) (by rw [g];omega) d;refine⟨d,B7,?_,λj r=>?_⟩
 .unfold bV gU;generalize am ((cW (cK S.take s a b).2 s a 4294967296).2.now a) ((cW (cK S.take s a b).2 s a 4294967296).2.now (a+1))=X at*;have w1:=w1;rw [w1];decide
 .have:=q (a+2+j) (by omega) (by omega) (by omega);refine Eq.trans this ?_;rw [show a+2+j=a+(2+j) by omega];exact m (2+j) (by omega)
theorem OZ {b:Nat} (k:S.Ok s) (n:S.fuse= -1) (oz:a+2+b<=s) (aq:18<=b) (aW:b<=256) (g:bV S a=(1,0,0)) (u:∀j,j<b->S.now (a+2+j)=zs 512):
    (bu S s a b).1=0/\(bu S s a b).2.fuse= -1/\(bu S s a b).2.life=wrap64 (S.life+1)/\(∀rs hd,dC (Rp (dW S a) b) (bV S a).1 (bV S a).2.1 rs hd->rs= []/\hd=0)/\ia S a b=1:=by
 have Pa:cq S s (a:Int) (b:Int)=0:=by
  unfold cq;rw [aA (by omega),aA (by omega),aA (by omega),aA (by omega)]
 have m:∀j,j<b->(dW S a j).e=0/\(dW S a j).d= []:=λj r=>by
  unfold dW;rw [u j r];exact⟨wF.2,wF.1⟩
 have t:ia S a b=1:=by
  unfold ia;rw [C9 b (λi q=>(m i q).1),g];rfl
 have o:bu S s (a:Int) (b:Int)=S.take.fl s:=by
  unfold bu;rw [aA (by omega),Int.toNat_natCast,Int.toNat_natCast,aA (by rw [g];decide),aA (by omega)]
 rw [o];have f:=rh (S:=S.take) n s;refine⟨Decidable.byContradiction (λe=>by have:=(lf e).2.1;have:S.take.fuse= -1:=n;omega),f,fO _ _,λrs hd Ag=>?_,t⟩;rw [g] at Ag;cases rs with
 |nil=>exact⟨rfl,Ag⟩
 |cons x xs=>
  obtain⟨c,f,_⟩:=Ag;have l:=(f.2.2.1 0 (by have:=f.1;omega)).2.2.2.2.1;have p:Rp (dW S a) b (0+0)=dW S a 0:=by unfold Rp;rw [Nat.add_zero,Nat.zero_mod]
  rw [p,(m 0 (by omega)).2] at l;simp at l
end
end
section
section
variable {S S2:DS} {s h0:Nat} {x:Int}
theorem wv:∀{ms:CM} {S:DS},S.fuse= -1->(sbring S s h0 ms).2.fuse= -1
 | [],_,h=>h
 |q :: qs,S,h=>by
  have a:=rg h s ((h0+q.1:Nat):Int) 512 q.2;unfold sbring;split
  .exact a
  .exact wv a
theorem Da:∀{ms:CM} {S:DS},S.fuse= -1->(∀q∈ms,h0+q.1<s/\q.2=zs 512)->(∀j,j<s->S.now j=zs 512)->∀j,j<s->(sbring S s h0 ms).2.now j=zs 512
 | [],_,_,_,hz=>hz
 |q :: qs,S,h,hm,hz=>by
  obtain⟨d,e⟩:=hm q (List.mem_cons_self ..);have a:∀j,j<s->(S.wr s ((h0+q.1:Nat):Int) 512 q.2).2.now j=zs 512:=λj b=>by
   rw [jD (by omega) d];split
   .exact e
   .exact hz j b
  unfold sbring;split
  .exact a
  .exact Da (rg h s ((h0+q.1:Nat):Int) 512 q.2) (λx c=>hm x (List.mem_cons_of_mem _ c)) a
theorem EM (d:a+n<=s):∀q∈eK n,a+q.1<s/\q.2=zs 512:=λq b=>by
 unfold eK at b;obtain⟨i,c,rfl⟩:=List.mem_map.1 b;have:=List.mem_range.1 c;exact⟨by show a+i<s;omega,rfl⟩
theorem E6 (a:S.fuse= -1):(S.fl s).1=0:=Decidable.byContradiction (λe=>by have:=(lf e).2.1;omega)
theorem AO (dh:S.Ok s) (f:S.fuse= -1) (b:a+n<=s) (r:∀j,j<s->S.now j=zs 512):(eu S s a n).1=0/\(eu S s a n).2.fuse= -1/\(eu S s a n).2.Ok s/\(eu S s a n).2.puts= []/\(∀j,j<s->(eu S s a n).2.now j=zs 512):=by
 obtain⟨k,_,_,l⟩:=qu dh b;obtain⟨_,_,m,o,_⟩:=ev (h0:=a) (ms:=eK n) dh (λq i=>⟨(EM b q i).1,by rw [(EM b q i).2];exact bB 512⟩);have c:=wv (s:=s) (h0:=a) (ms:=eK n) f;have p:=Decidable.byContradiction (λe=>by have:=o e;omega);have e:eu S s a n=(sbring S s a (eK n)).2.fl s:=by unfold eu;rw [aA (λh=>h p)]
 have d:(eu S s a n).1=0:=by rw [e];exact E6 c
 refine⟨d,by rw [e];exact rh c s,k,l d,λj g=>?_⟩;rw [e,eU m g];exact(Da (s:=s) (h0:=a) f (EM b) r) j g
theorem aa2 {k:Nat} (c:k<s) (l:List Int) (b:j≠k):(S.wr s (k:Int) 512 l).2.now j=S.now j:=by
 by_cases a:S.fuse=0
 .unfold DS.wr;rw [aE a]
 .rw [jD a c,aA b]
theorem AP {f j:Nat}:∀k,f+k<=s->f+k<=j->(bA S s f k).2.now j=S.now j
 |0,_,_=>rfl
 |k+1,h1,h2=>by
  have a:(bA S s f k).2.now j=S.now j:=AP k (by omega) (by omega);show (stepsTo S _ (k+1)).2.now j=_;unfold stepsTo;split
  .exact a
  .exact(aa2 (k:=f+k) (by omega) _ (by omega)).trans a
theorem IG {b:Nat} (dh:S.Ok s) (oz:a+2+b<=s) (k:a+2+b<=j) (c:j<s):(cy S s (a:Int) (b:Int)).2.now j=S.now j:=by
 have pz:S.take.Ok s:=⟨dh.len,dh.lo,dh.hi,dh.puts,dh.fuse⟩;obtain⟨_,g,_,_⟩:=lw (f:=a) pz (n:=b+2) (by omega) (b+2) (bP _);have d:(bA S.take s a (b+2)).2.now j=S.now j:=AP (S:=S.take) (b+2) (by omega) (by omega);have e:(cK S.take s a b).2.now j=S.now j:=by
  unfold cK;split
  .exact d
  .exact(eU g c).trans d
 obtain⟨_,i,_,_⟩:=kF (f:=a) (n:=b) pz oz;unfold cy;split
 .rfl
 .simp only [Int.toNat_natCast];split
  .exact e
  .exact((nM i (by omega) _).2 j (by omega) c).trans e
theorem EN (n k:Nat):(leb n k).take n=leb n k:=nh (by rw [aH];omega)
theorem TF {b:Nat} (i:vq a b c):lT (gH a b c) a/\(cz (gH a b c)).log=b/\(cz (gH a b c)).home=3+b/\(cz (gH a b c)).blocks=a-(3+b):=by
 have Rh:=i;obtain⟨⟨k,l⟩,⟨n,o⟩,p,r,s⟩:=i;have e:=ki a b c;have uA:gq.length=8:=rfl;have g:∀q m,q+m<=508->part (eR (bM a b c)) q m=part (bM a b c) q m:=λq m h=>iL _ _ _ _ (by rw [dD];exact h);have f:u32 (eR (bM a b c)) 8=a:=by
  unfold u32;rw [g 8 4 (by omega)];unfold bM;rw [iL _ _ _ _ (by simp only [dT,aH,uA];omega),iL _ _ _ _ (by simp only [dT,aH,uA];omega),iL _ _ _ _ (by simp only [dT,aH,uA];omega),qg _ _ _ _ uA.symm,EN,Am _ _ (by omega)]
 have d:u32 (eR (bM a b c)) 12=b:=by
  unfold u32;rw [g 12 4 (by omega)];unfold bM;rw [iL _ _ _ _ (by simp only [dT,aH,uA];omega),iL _ _ _ _ (by simp only [dT,aH,uA];omega),qg _ _ _ _ (by simp only [dT,aH,uA]),EN,Am _ _ (by omega)]
 have ZP:u32 (eR (bM a b c)) 16=c:=by
  unfold u32;rw [g 16 4 (by omega)];unfold bM;rw [iL _ _ _ _ (by simp only [dT,aH,uA];omega),qg _ _ _ _ (by simp only [dT,aH,uA]),EN,Am _ _ (by omega)]
 have j:Bytes (eR (bM a b c)):=(gM _ _ _).append (iF _ _);refine⟨⟨(C0 j e).2 ⟨?_,?_⟩,f⟩,?_,?_,?_⟩
 .rw [f,d,ZP];exact Rh
 .rw [f,d,ZP]
 .unfold cz;exact d
 .unfold cz;show 3+u32 _ 12=_;rw [d]
 .unfold cz;show u32 _ 8-(3+u32 _ 12)=_;rw [f,d]
theorem EO {b:Nat} (dh:S.Ok a) (cZ:S.fC) (Y:S.fuse= -1) (vJ:0<=S.life) (cm:S.life<=1) (q:vq a b c) (Z:∀j,j<a->S.now j=zs 512):
    (bT S a a b c).1=0/\(bT S a a b c).2.fuse= -1/\(bT S a a b c).2.Ok a/\(bT S a a b c).2.puts= []/\(bT S a a b c).2.now 0=gH a b c/\bV (bT S a a b c).2 1=(1,0,0)/\∀j,3<=j->j<a->(bT S a a b c).2.now j=zs 512:=by
 obtain⟨⟨O,P⟩,⟨Q,R⟩,T,U,W⟩:=q;have q:vq a b c:=⟨⟨O,P⟩,⟨Q,R⟩,T,U,W⟩;have pz:S.take.Ok a:=⟨dh.len,dh.lo,dh.hi,dh.puts,dh.fuse⟩;have J:bT S a a b c=ly S a b c:=by
  unfold bT;rw [aA (by omega)]
  haveI:=RU (a:Int) (b:Int) (c:Int)
  rw [aE ⟨q,rfl⟩,Int.toNat_natCast,Int.toNat_natCast]
 obtain⟨u,v,w,G,x⟩:=AO (s:=a) (a:=0) (n:=1) pz Y (by omega) (λj r=>Z j r);have y:=j8 cZ.take a 0 1;have z:=uy S.take a 0 1;have M:lZ S a=eu S.take a 0 1:=rfl;rw [<-M] at u v w G x y z;obtain⟨A,C,e,D,E⟩:=AO (s:=a) (a:=1) (n:=a-1) w v (by omega) x;have H:=j8 y a 1 (a-1);have I:=(uy (lZ S a).2 a 1 (a-1)).trans z;have N:mW S a=eu (lZ S a).2 a 1 (a-1):=rfl;rw [<-N] at A C e D E H I;have bm:S.take.life=S.life+1:=by show wrap64 (S.life+1)=_;unfold wrap64;omega
 obtain⟨g,i,k,l⟩:=IP (a:=1) (b:=b) e C (by omega) (by omega) (by omega);obtain⟨m,_,d3⟩:=rP (S:=(mW S a).2) (s:=a) (t:=10) e (by omega) (by omega) (by omega) (by omega) D 1 (b:Int);have aa3:∀j,3+b<=j->j<a->(cy (mW S a).2 a 1 (b:Int)).2.now j=zs 512:=λj X d=>(IG (a:=1) (b:=b) e (by omega) (by omega) d).trans (E j d);have g:(jJ S a b).1=0:=g;have i:(jJ S a b).2.fuse= -1:=i;have k:bV (jJ S a b).2 1=(1,0,0):=k;have l:∀j,j<b->(jJ S a b).2.now (1+2+j)=zs 512:=l;have m:(jJ S a b).2.Ok a:=m;have aa3:∀j,3+b<=j->j<a->(jJ S a b).2.now j=zs 512:=aa3;have mL:(gH a b c).length=512:=ki _ _ _;have p:l5 S a b c=(jJ S a b).2.wr a ((0:Nat):Int) 512 (gH a b c):=rfl;have K:(l5 S a b c).1=0:=by rw [p,oO (by omega) (by omega)]
 have o:(l5 S a b c).2.fuse= -1:=rg i _ _ _ _;have F:(l5 S a b c).2.Ok a:=by rw [p];exact tP m (by omega) (by omega) mL
 have f:∀j,(l5 S a b c).2.now j=if j=0 then gH a b c else (jJ S a b).2.now j:=λj=>by rw [p];exact jD (by omega) (by omega) _ j
 have L:ly S a b c=(l5 S a b c).2.fl a:=by
  unfold ly;rw [aA (λh=>h u),aA (λh=>h A),aA (λh=>h g),aA (λh=>h K)]
 rw [J,L];have jL:∀j,j<a->((l5 S a b c).2.fl a).2.now j=(l5 S a b c).2.now j:=λj r=>eU F r;refine⟨E6 o,rh o a,qx F,jf (E6 o),?_,?_,λj X d=>?_⟩
 .rw [jL 0 (by omega),f 0,aE rfl]
 .have o1:((l5 S a b c).2.fl a).2.now 1=(jJ S a b).2.now 1:=by rw [jL 1 (by omega),f 1,aA (by omega)]
  have o2:((l5 S a b c).2.fl a).2.now 2=(jJ S a b).2.now 2:=by rw [jL 2 (by omega),f 2,aA (by omega)]
  rw [<-k];unfold bV;rw [o1,o2]
 .rw [jL j d,f j,aA (by omega)];by_cases h3:j<3+b
  .have:=l (j-3) (by omega);rwa [show 1+2+(j-3)=j by omega] at this
  .exact aa3 j (by omega) d
theorem IH (a:S.fuse= -1):(L.start S s).2.1.fuse= -1:=by
 unfold LG.start;split
 .exact a
 .split
  .exact a
  .split <;> exact C8 a _ _ _
theorem II:(L.start S s).2.2.life=L.life:=by
 unfold LG.start;split
 .rfl
 .split
  .rfl
  .split <;> rfl
theorem sR.life (h:sR S s L):L.life=wrap64 (S.life+1):=by
 obtain⟨rs,hd,ov,_,_,rfl⟩:=h;exact II
theorem Lv (dh:S.Ok s) (cZ:S.fC) (l:S.fuse= -1) (qv:lT (S.now 0) s) (u:bV S 1=(1,0,0)) (y:∀j,j<(cz (S.now 0)).log->S.now (1+2+j)=zs 512) (v:jP S s x S2):x=0/\S2.fuse= -1/\∀j,3<=j->j<s->S2.now j=S.now j:=by
 have uv:=kh qv;obtain⟨n,D,E,o,F⟩:=OZ (a:=1) (b:=(cz (S.now 0)).log) dh l (by omega) (by omega) (by omega) u y;have Iw:(bu S s 1 (((cz (S.now 0)).log:Nat):Int)).1=0:=n;obtain⟨_,m,C,ox⟩:=lV (f:=1) Iw;have QP:bu S s 1 (((cz (S.now 0)).log:Nat):Int)=S.take.fl s:=ox;have pz:S.take.Ok s:=⟨dh.len,dh.lo,dh.hi,dh.puts,dh.fuse⟩;rcases v with ⟨r,A,rfl⟩|⟨_,_,k⟩
 .exfalso;rcases r with ⟨d,_,_⟩|⟨_,_,_,e⟩|⟨_,c,_,_⟩
  .omega
  .exact A e
  .exact c qv
 .rcases k with ⟨p,z,_⟩|⟨_,rs,hd,Fl,k⟩
  .exact absurd (p.symm.trans Iw) z
  .obtain⟨rfl,rfl⟩:=o rs hd Fl.t;rcases k with ⟨d,_,_⟩|⟨ov,uF,k⟩
   .cases d
   .have w:ee (bu S s 1 (((cz (S.now 0)).log:Nat):Int)).2 s (cz (S.now 0)) ov []=(0,(bu S s 1 (((cz (S.now 0)).log:Nat):Int)).2):=(by unfold ee;rw [aE rfl]);rw [w] at k;rcases k with ⟨d,c,_⟩|⟨_,c,rfl⟩
    .exact absurd d.symm c
    .have xn:=xQ (s:=s) Fl cZ m C (by omega) (by omega) (by omega);have Jv:S.num 1<((eZ S 1 (cz (S.now 0)).log 0).top+1)*4294967296:=Et m;rw [QP] at c⊢;have afO:=qx (s:=s) pz;have MK:∀j,j<s->(S.take.fl s).2.now j=S.now j:=λj q=>eU (S:=S.take) pz q;have dP:(S.take.fl s).2.num (eZ S 1 (cz (S.now 0)).log 0).f<((eZ S 1 (cz (S.now 0)).log 0).top+1)*4294967296:=by
      show (S.take.fl s).2.num 1<_;rw [vw (S:=S) (S':=(S.take.fl s).2) (MK 1 (by omega)) (MK 2 (by omega))];exact Jv
     have On:(eZ S 1 (cz (S.now 0)).log 0).life=(S.take.fl s).2.life:=(fO S.take s).symm;have g:=rh (S:=S.take) l s;have Ff:=IH (s:=s) (L:=eZ S 1 (cz (S.now 0)).log 0) g;refine⟨Decidable.byContradiction (λe=>?_),Ff,λj G i=>?_⟩
     .have:=(C5 afO xn rfl On dP (by show ((eZ S 1 (cz (S.now 0)).log 0).start (S.take.fl s).2 s).1≠0;rw [c];exact e)).1;omega
     .refine Eq.trans ?_ (MK j i);show ((eZ S 1 (cz (S.now 0)).log 0).start (S.take.fl s).2 s).2.1.now j=_;unfold LG.start;split
      .rfl
      .split
       .rfl
       .split <;> exact(nM afO (by show 1+1<s;omega) _).2 j (by show 1+2<=j;omega) i
end
end
theorem O7 (a:j<s):(DS.fresh (List.replicate (s*512) 0)).now j=zs 512:=by
 show bI (List.replicate (s*512) 0) j=zs 512;unfold bI zs;rw [List.drop_replicate,List.take_replicate];congr 1;omega
structure TH (S:DS):Prop where
 c:(bT S 30 30 18 4).1=0
 f:(bT S 30 30 18 4).2.fuse= -1
 i:V.Inv (bT S 30 30 18 4).2 30 [] 3
 u:lT ((bT S 30 30 18 4).2.now 0) 30
 l:(cz ((bT S 30 30 18 4).2.now 0)).log=18
 h:(cz ((bT S 30 30 18 4).2.now 0)).home=21
 b:(cz ((bT S 30 30 18 4).2.now 0)).blocks=9
 n:bV (bT S 30 30 18 4).2 1=(1,0,0)
 z:∀j,3<=j->j<30->(bT S 30 30 18 4).2.now j=zs 512
theorem WL (dh:S.Ok 30) (cZ:S.fC) (r:S.puts.length=0) (p:S.fuse= -1) (v:S.life=1) (s:∀j,j<30->S.now j=zs 512):TH S:=by
 have e:vq (30:Nat) (18:Nat) (4:Nat):=by unfold vq;decide
 obtain⟨f,g,t,u,d,i,k⟩:=EO (a:=30) (b:=18) (c:=4) dh cZ p (by omega) (by omega) e s;obtain⟨l,m,n,o⟩:=TF e;have q:V.Inv S 30 [] 1:=V.Inv.zero dh cZ r (by omega) (by omega);have d:(bT S 30 30 18 4).2.now 0=gH 30 18 4:=d;exact⟨f,g,q.aeW (by omega) 30 18 4,by rw [d];exact l,by rw [d];exact m,by rw [d];exact n,by rw [d];exact o,i,k⟩
theorem IJ (hd:G.L.dead S=false) (a:G.busy=false):G.begin S=0:=by
 unfold SG.begin;rw [hd,a];rfl
theorem EP {b:Int} (hd:G.L.dead S=false) (h0:0<=b) (d:b<(G.y.blocks:Int)):(⟨[],0,false⟩:TG).refusal G S b=0:=by
 have a:(⟨[],0,false⟩:TG).bX G S=0:=by unfold TG.bX;rw [hd];rfl
 have c:(⟨[],0,false⟩:TG).state G S=0:=by unfold TG.state;rw [a];rfl
 unfold TG.refusal;rw [c,aA (λh=>h rfl),aA (by omega)]
theorem O0 (w:World):Calls prog 10 #[] w λe w'=>e= .returned (.bool true)/\bW w w':=by
 have D:=PD 30 w (by omega) (by omega);rw [show ((30:Nat):Int)=30 from rfl] at D;go_in;go_wp2_with fail;refine D.mono ?_;rintro e w1 ⟨p,rfl,iB,aq⟩;have afP:B.ax w1 (λk=>w.heap.size<=k/\k<w1.heap.size) p 30 (DS.fresh (List.replicate (30*512) 0)) 0:=⟨0,iB,λ_=>⟨Int.le_refl _,Int.le_refl _⟩⟩;have hm:=WL iB.ok ⟨Bytes.tu _,λq v=>by cases v⟩ rfl rfl rfl (λj J=>O7 J);have cZ:(DS.fresh (List.replicate (30*512) 0)).fC:=⟨Bytes.tu _,λq v=>by cases v⟩;have sB:(DS.fresh (List.replicate (30*512) 0)).puts.length=0:=rfl;generalize DS.fresh (List.replicate (30*512) 0)=X at*;have afQ:∀k,(λk=>w.heap.size<=k/\k<w1.heap.size) k->w.heap.size<=k:=λk C=>C.1;have aey:∀k,(λk=>w.heap.size<=k/\k<w1.heap.size) k->k<w1.heap.size:=λk C=>C.2;generalize (λk=>w.heap.size<=k/\k<w1.heap.size)=U at*;have E:=wl afP cZ 30 18 4 (by omega);obtain⟨Q,m2,R,m4,m5,m6,m7,m8,S⟩:=hm;rw [Q] at E;generalize (bT X 30 30 18 4).2=b at*;obtain⟨cN,r,G,afR,F⟩:=ey aq R S afQ aq.size;clear D iB afP aq cZ sB Q R S afQ;go_wp2_with fail;refine fk E λw2 cC aX=>?_;obtain⟨K,aof,gQ,zz2⟩:=cM (AG cC r.pO (by have:=r.p6;omega)) cC.lt aX aX.size;clear E cC aX;go_wp2_with fail;refine K.mono ?_;rintro e w3 ⟨x,c,Y,_,l6,aV,Iy⟩;obtain⟨y,n2,n3⟩:=Lv r.ok r.pO m2 m4 m8 (λj J=>G (1+2+j) (by omega) (by omega)) l6;rcases Iy with ⟨a,_⟩|⟨_,q,l,m,L,F',mL,rfl,Yi,v,hl,hm',bt⟩
 .exact absurd y a
 .have On:L.life=c.life:=by
   rw [mL.life];rcases l6.life with ⟨_,s⟩|s
   .exact absurd y s
   .exact s.symm
  have Yq:L.dead c=false:=by
   unfold LG.dead;rw [On,n2];simp
  have M:=(sE bt).mono (λe w' h=>by unfold sD at h;rw [aA (λh=>h (IJ Yq rfl))] at h;exact h);obtain⟨uK,gV,W,ma,A,zz3⟩:=kQ (((r.fv (by omega) l6).2 y L mL).p6) bt l6 aV Yi aV.size;clear K bt l6 aV Yi mL y;go_wp2_with fail;refine M.mono ?_;rintro e T ⟨t,n,rfl,ZB,ht4,X1,afS,SE,afT,dV⟩;have TC:ig T F' p 30 Y q l m c ⟨cz (b.now 0),L, [],true⟩:=⟨gV.d.au dV (λg f e=>gV.nq (e▸f)),afT,gV.lp.au dV (λe=>gV.ql e.symm),gV.ch.au dV (λe=>gV.qm e.symm),gV.nq,gV.nl,gV.nm,gV.ql,gV.qm,gV.lm,gV.lk,gV.bg,gV.hs,gV.kb⟩;obtain⟨rB,A5,jT,AY⟩:=cM gV.d.lt gV.st.lt gV.lp.lt gV.ch.lt;have AJ:mx T F' q l m t n ⟨cz (b.now 0),L, [],true⟩ ⟨[],0,false⟩:=⟨afS,SE,λa=>by have:=rB _ a;omega,λa=>by have:=rB _ a;omega,by omega,by omega,by omega,X1,by omega,by omega,by omega,λx a=>by cases a⟩;have u:(⟨[],0,false⟩:TG).refusal ⟨cz (b.now 0),L, [],true⟩ c 8=0:=EP Yq (by omega) (by show 8<((cz (b.now 0)).blocks:Int);omega);have Du:(⟨[],0,false⟩:TG).jN ⟨cz (b.now 0),L, [],true⟩ c (8:Int).toNat=zs 512:=by
   show c.now ((cz (b.now 0)).home+8)=zs 512;rw [m6,n3 29 (by omega) (by omega)];exact G 29 (by omega) (by omega)
  have N:=(D5 TC AJ 8 (by omega)).mono (λe w' h=>by rw [Du] at h;unfold vk at h;rw [aA (λh=>h u)] at h;exact h);have L0:=dV;have zz4:=dV.size;clear M afS SE afT dV TC AJ u Du;go_wp2_with fail;refine N.mono ?_;rintro e w5 ⟨⟨I,rfl,Uc,aZ⟩,jy,dX⟩;have i:=aZ;have ff:bW w w5:=by
   have H:∀g,more U w1 w2 g->w.heap.size<=g:=λg f=>f.elim (afR g) (λh=>by omega);have Z:=λg f=>(A g f).elim (H g) (λh=>by omega);exact(((cN.trans (gQ.below afR F)).trans (ma.below H (by omega))).trans (L0.below (λg f=>by omega) (by omega))).trans (dX.below Z (by omega))
  have jd:=ff;have zz5:=dX.size;clear N aZ jy dX ff;have XJ:(Instr.makeSlice 36 (iV 512) (iV 512)).run prog w5= .ok (.slice (some (aD w5.heap.size 0)) 512 512) (w5.alloc (.cells (madeCells #[.int .u8 0] 512) 5)):=run_make_row' (P:=prog) 36 5 (.int .u8 0) 1 underlying36 fW rfl .i64 .i64 512 (by omega) (by omega) w5;obtain⟨z,Mt⟩:=bQ (w5.alloc (.cells (madeCells #[.int .u8 0] 512) 5));rw [<-Mt] at XJ;have ny:bW w5 z:=by rw [Mt];exact aI _ _
  have DA:ay z 5 w5.heap.size 512 (bs (zs 512)):=by
   rw [Mt];exact lJ (World.ownsRow_lit (base:=w5.heap.size) w5 (madeCells #[.int .u8 0] 512) 512 (bP _) (by unfold maxLen;omega) (by simp [madeCells]))
  have T6:Src z (some (aD w5.heap.size 0)) 512 (zs 512):=by have:=DA.src;rwa [bB] at this
  have O:=pb (some (aD I 0)) (some (aD w5.heap.size 0)) 512 512 512 (zs 512) z (by omega) (by
    have s:=(i.au (ny.block I i.lt)).src (o:=0) (n:=512) (by have:=bB 512;omega);rwa [List.drop_zero,nh (by rw [bB];omega)] at s) T6
  have wO:=(jd.trans (ny.mono (by omega)));have zz6:=ny.size;clear DA ny T6 Mt;go_wp2_with fail;refine bE O λw7 vU=>?_;have Fk:=(wO.trans (vU.mono (by omega)));clear O vU;go_wp2;go_ret;exact⟨rfl,Fk⟩
abbrev O1 (p r:Value):Array Value:= #[p,r, .slice none 0 0, .slice none 0 0, .slice none 0 0, .slice none 0 0]
def EQ (w w':World) (l:List Int) (q:Nat):Prop:=
 bW w w'/\w.heap.size<=q/\(w'.heap[q]? =some (.cells (O1 (.pointer none) (.pointer none)) 35 (0,0))\/
  ∃(F F2 O:Nat->Prop) (p r s:Nat) (im:List Int),W5 w' q F (λ_=>False) F2 (λ_=>False) O p r s (DS.fresh im) (DS.fresh im) 0 (.slice none 0 0) (.slice none 0 0) (.slice none 0 0) (.slice none 0 0) [] [] [] []/\(im=l\/∃m,im=List.replicate m 0)/\∀g,(F g\/F2 g\/O g)->w.heap.size<=g)
theorem aa4 {w1:World} {G:Nat->Prop} {r:Nat} (h:Two w1 w.heap.size F G p r s (DS.fresh im) (DS.fresh im)) (j:w.heap.size<=w1.heap.size):
  ∃O,W5 (w1.alloc (.cells (O1 (pV p) (pV r)) 35)) w1.heap.size F (λ_=>False) G (λ_=>False) O p r s (DS.fresh im) (DS.fresh im) 0 (.slice none 0 0) (.slice none 0 0) (.slice none 0 0) (.slice none 0 0) [] [] [] []/\∀g,(F g\/G g\/O g)->w.heap.size<=g:=by
 have f:=aI w1 (.cells (O1 (pV p) (pV r)) 35);have hd:B.ax w1 F p s (DS.fresh im) 0:=⟨0,h.d,λ_=>⟨Int.le_refl _,Int.le_refl _⟩⟩;have i:=h.e.later f;have ef:(w1.alloc (.cells (O1 (pV p) (pV r)) 35)).heap.size=w1.heap.size+1:=by simp
 have c:∀g,(Value.slice none 0 0).ownBlock=some g->False:=λg e=>by simp [Value.ownBlock] at e
 refine⟨λg=>g=w1.heap.size,⟨heap_alloc_new _ _,rfl,λg e=>by omega,⟨hd.later f,λ_ h=>h.elim,λ_ h=>h.elim,λ_ h=>(by cases h),λ_ h=>(by cases h),List.nodup_nil,List.nodup_nil,List.nodup_nil,List.nodup_nil⟩,⟨i,λ_ h=>h.elim,λ_ h=>h.elim,λ_ h=>(by cases h),λ_ h=>(by cases h),List.nodup_nil,List.nodup_nil,List.nodup_nil,λ_ _ _ _ h=>(by simp at h),λ_ _ _ _ h=>(by simp at h),λ_ h=>(by cases h)⟩,World.ownsRow_nil _ _ _ _,λg e=>(c g e).elim,World.ownsRow_nil _ _ _ _,λg e=>(c g e).elim,World.ownsRow_nil _ _ _ _,λg e=>(c g e).elim,World.ownsRow_nil _ _ _ _,λg e=>(c g e).elim,λg b a=>?_,λg e a=>?_,λg e a=>?_⟩,λg b=>?_⟩
 .rcases b with b|b
  .rcases a with a|a
   .exact h.fD g b a
   .exact a
  .exact b
 .rcases a with a|a
  .have:=hd.lt g a;omega
  .exact a
 .rcases a with a|a
  .have:=h.e.lt g a;omega
  .exact a
 .rcases b with b|b|b
  .exact h.fF g b
  .exact h.fG g b
  .omega
theorem Lw (bI:Int) (a:Option Addr) (n c:Nat) (l:List Int) (w:World) (g:Src w a n l) (u:n<=140737488355328) (iS:n<=c):
  Calls prog 9 #[iV bI, .slice a n c] w λe w'=>∃q,e= .returned (.tuple #[pV q, .bool true])/\EQ w w' l q:=by
 have f:=NM bI a n c l w w.heap.size (bP _) g u iS;clear g;go_in;go_wp2_with fail;refine f.mono ?_;rintro e w1 ⟨d,r,rfl,aq,⟨rfl,rfl⟩|⟨F,G,p,q,s,im,rfl,rfl,i,t,m,o⟩⟩
 .have b:(EQ w (w1.alloc (.cells (O1 (.pointer none) (.pointer none)) 35)) l w1.heap.size):=⟨aq.trans ((aI w1 _).mono aq.size),aq.size, .inl (heap_alloc_new _ _)⟩;clear f aq;go_wp2;go_ret2;exact⟨_,rfl,b⟩
 .have b:(EQ w (w1.alloc (.cells (O1 (pV p) (pV q)) 35)) l w1.heap.size):=by
   obtain⟨O,j,k⟩:=aa4 i aq.size;exact⟨aq.trans ((aI w1 _).mono aq.size),aq.size, .inr ⟨F,G,O,p,q,s,im,j,t,k⟩⟩
  clear f aq i m o;go_wp2;go_ret2;exact⟨_,rfl,b⟩
theorem TI {q r:Nat} {F2 O:Nat->Prop} (h:W5 w q F (λ_=>False) F2 (λ_=>False) O p r s (DS.fresh im) (DS.fresh im) 0 (.slice none 0 0) (.slice none 0 0) (.slice none 0 0) (.slice none 0 0) [] [] [] []) (b:im=l\/∃m,im=List.replicate m 0) (a:Bytes l):Lk (DS.fresh im) s 1 [] [] [] []:=by
 refine⟨rfl,λ_ _ _ h=>(by simp at h),rfl,λ_ _ _ h=>(by simp at h),V.Inv.zero h.pw.d.ok ⟨?_,λq c=>by cases c⟩ rfl (show (0:Int)<=1 by decide) (show (1:Int)<=1 by decide),λ_ _ _ h=>(by simp at h),λ_ h=>(by cases h),λ_ _ _ h=>(by simp at h),rfl⟩;rcases b with rfl|⟨m,rfl⟩
 .exact a
 .exact Bytes.tu m
section
open Go.ChangeShapes Go.WideShapes Go.ChangeAt Go.RowKit Go.Deep
theorem O2:prog.bytesOf 115=24:=by kernel_rfl
theorem TJ:prog.bytesOf 41=104:=by kernel_rfl
theorem AQ:prog.cellsOf 37=1:=by kernel_rfl
theorem Db:prog.cellsOf 115=3:=by kernel_rfl
theorem vE:prog.cellsOf 39=3:=by kernel_rfl
theorem AR:prog.cellsOf 41=9:=by kernel_rfl
structure O3 (w:World) (B:Nat) (ag A:Int) (da:Option Addr) (dn dc:Nat) (pa:Option Addr) (pn:Nat) (d:List Int) (pl:List P3):Prop where
 g:ag<=9223372036854775807
 A:A<=9223372036854775807
 s:Src w da dn d
 b:Bytes d
 c:dn<=dc
 n:dn<=140737488355328
 l:∀y,da=some y->0<dn->y.block<B
 p:kS w pa pn pl
 pq:∀y,pa=some y->0<pn->y.block<B
 pn:24*pn<=140737488355328
theorem O3.lI {B:Nat} {e:List P3} (h:O3 w B ag A da dn dc pa pn d e) (a:Below B w w'):O3 w' B ag A da dn dc pa pn d e:=
   ⟨h.g,h.A,h.s.lI a h.l,h.b,h.c,h.n,h.l,h.p.lI a h.pq,h.pq,h.pn⟩
theorem O3.ak7 {A':Nat->Prop} {B:Nat} {e:List P3} (h:O3 w B ag A da dn dc pa pn d e) (b:∀g,A' g->B<=g) (c:B<=w.heap.size):(∀W,aa A' w W->Src W da dn d)/\∀W,aa A' w W->kS W pa pn e:=
   ⟨λ_ a=>h.s.lI (a.below b c) h.l,λ_ a=>h.p.lI (a.below b c) h.pq⟩
def kt (w:World) (B:Nat) (sa:Option Addr) (n:Nat):Prop:=
   (sa=none->n=0)/\∀y,sa=some y->∀i,i<n->∃b o,y=(aD b o)/\b<B/\∃kd ag A B' da dn dc pa pn pc x y' z d pl,
  w.cell? ⟨b,o+i*9,none⟩=some (iV kd)/\w.cell? ⟨b,o+i*9+1,none⟩=some (iV ag)/\w.cell? ⟨b,o+i*9+2,none⟩=some (iV A)/\w.cell? ⟨b,o+i*9+3,none⟩=some (iV B')/\w.cell? ⟨b,o+i*9+4,none⟩=some (.slice da dn dc)/\w.cell? ⟨b,o+i*9+5,none⟩=some (.slice pa pn pc)/\w.cell? ⟨b,o+i*9+6,none⟩=some (iV x)/\w.cell? ⟨b,o+i*9+7,none⟩=some (iV y')/\w.cell? ⟨b,o+i*9+8,none⟩=some (iV z)/\O3 w B ag A da dn dc pa pn d pl
theorem kt.lI {B:Nat} {f:Option Addr} (h:kt w B f n) (c:Below B w w'):kt w' B f n:=by
 refine⟨h.1,λy F i D=>?_⟩;obtain⟨b,o,rfl,Mk,G,g,A,B',u,C,v,H,K,I,x,L,z,d,J,j,k,l,m,p,q,r,s,t,E⟩:=h.2 y F i D;have e:=c.block b Mk;exact⟨b,o,rfl,Mk,G,g,A,B',u,C,v,H,K,I,x,L,z,d,J,(World.cell?_of_block (w:=w) (a:=(aD b _)) e).trans j,(World.cell?_of_block (w:=w) (a:=(aD b _)) e).trans k,(World.cell?_of_block (w:=w) (a:=(aD b _)) e).trans l,(World.cell?_of_block (w:=w) (a:=(aD b _)) e).trans m,(World.cell?_of_block (w:=w) (a:=(aD b _)) e).trans p,(World.cell?_of_block (w:=w) (a:=(aD b _)) e).trans q,(World.cell?_of_block (w:=w) (a:=(aD b _)) e).trans r,(World.cell?_of_block (w:=w) (a:=(aD b _)) e).trans s,(World.cell?_of_block (w:=w) (a:=(aD b _)) e).trans t,E.lI c⟩
section
variable {H:Type} {enc:TypeId×Value->H} {W:World} {base:Nat} {spare:Nat->Bool} {held:Bool}
theorem Yr {P:Program} {e:TypeId} {f g i j c d l:Field} {cs:List Value} {x:DataW H×List MemPlace} (p:P.underlying e=some (.struct #[f,g,i,j,c,d,l])) (J:P.cellsOf e=9) (K:f.offset=0) (L:g.offset=1) (M:i.offset=2) (N:j.offset=3) (O:c.offset=4) (Q:d.offset=5) (R:l.offset=6)
    (A:P.cellsOf f.type=1) (C:P.cellsOf g.type=1) (D:P.cellsOf i.type=1) (E:P.cellsOf j.type=1) (F:P.cellsOf c.type=1) (G:P.cellsOf d.type=1) (I:P.cellsOf l.type=3) (h:DataW.trod enc P W base spare held n e cs=some x):
  ∃v0 v1 v2 v3 v4 v5 v6 v7 v8 y0 y1 y2 y3 y4 y5 y6 k,cs= [v0,v1,v2,v3,v4,v5,v6,v7,v8]/\x.1= .agg [y0.1,y1.1,y2.1,y3.1,y4.1,y5.1,y6.1]/\DataW.trod enc P W base spare held k f.type [v0]=some y0/\DataW.trod enc P W base spare held k g.type [v1]=some y1/\DataW.trod enc P W base spare held k i.type [v2]=some y2/\DataW.trod enc P W base spare held k j.type [v3]=some y3/\DataW.trod enc P W base spare held k c.type [v4]=some y4/\DataW.trod enc P W base spare held k d.type [v5]=some y5/\DataW.trod enc P W base spare held k l.type [v6,v7,v8]=some y6/\(∀m∈y4.1.weights P c.type,m∈x.1.weights P e)/\(∀m∈y5.1.weights P d.type,m∈x.1.weights P e):=by
 obtain⟨xs,k,_,r,a,Fb,b⟩:=DataW.trod_struct p h;rw [J] at a
 match xs,Fb,cs,a with
 | [y0,y1,y2,y3,y4,y5,y6],_, [v0,v1,v2,v3,v4,v5,v6,v7,v8],_=>
  obtain⟨s,t,u,v,w,y,z⟩:=nW (b 0 f rfl) (b 1 g rfl) (b 2 i rfl) (b 3 j rfl) (b 4 c rfl) (b 5 d rfl) (b 6 l rfl);simp [K,L,M,N,O,Q,R,A,C,D,E,F,G,I] at s t u v w y z;have o:x.1= .agg [y0.1,y1.1,y2.1,y3.1,y4.1,y5.1,y6.1]:=by rw [r];rfl
  refine⟨v0,v1,v2,v3,v4,v5,v6,v7,v8,y0,y1,y2,y3,y4,y5,y6,k,rfl,o,s,t,u,v,w,y,z,λm q=>?_,λm q=>?_⟩
  .rw [o];simp [DataW.weights,p,DataW.weightsEach,q]
  .rw [o];simp [DataW.weights,p,DataW.weightsEach,q]
theorem AS {n:Int} (h:(Lit.int .i64 n).wf=true):n<=9223372036854775807:=by
 have:=h;simp [Lit.wf] at this;omega
theorem Lx {d:DataW H} {pl:List MemPlace} (h:DataW.trod enc prog W base spare held fuel 37 [v]=some (d,pl)) (T:∀n∈d.weights prog 37,n<=reachBytes):
  ∃a n c l,v= .slice a n c/\kS W a n l/\24*n<=140737488355328:=by
 rcases open_slice underlying37 h with ⟨nY,_⟩|⟨x,e,t,m,k,D,Pl,nY,_,hl,hm,BV,hd,s⟩
 .simp only [List.cons.injEq,and_true] at nY;exact⟨none,0,0, [],nY,⟨rfl,λ_=>rfl,(λx s=>by cases s),λq w=>by cases w⟩,dU _⟩
 .simp only [List.cons.injEq,and_true] at nY;simp only [Prod.mk.injEq] at hd;replace hd:=hd.1;subst hd;have xw:e<=m:=by rw [BV];split <;> omega
  have I:=T ((((List.range e).map D).length+((List.range (m-e)).map λj=>D (e+j)).length)*prog.bytesOf 115) (by simp [DataW.weights,underlying37]);rw [O2] at I;simp only [List.length_map,List.length_range,reachBytes] at I;rw [Db] at s;have g:∀i,i<e->∃q:P3,W.cell? (x.add (i*3))=some (iV q.1)/\W.cell? (x.add (i*3+1))=some (iV q.2.1)/\W.cell? (x.add (i*3+2))=some (iV q.2.2)/\q.1<=9223372036854775807/\q.2.1<=9223372036854775807/\q.2.2<=9223372036854775807:=by
   intro i r;obtain⟨N,O,P⟩:=s i (by omega);obtain⟨_,J,du⟩:=World.cells?_some O;obtain⟨v0,v1,v2,y0,y1,y2,k',rfl,_,Q,R,S⟩:=Xf underlying115 Db rfl rfl rfl fK fK fK P;obtain⟨X,K,_,w0⟩:=DataW.trod_int underlying3 Q;obtain⟨Y,L,_,w1⟩:=DataW.trod_int underlying3 R;obtain⟨Z,M,_,w2⟩:=DataW.trod_int underlying3 S;simp only [List.cons.injEq,and_true] at K L M;subst K L M;have E:=du 0 (by omega);have F:=du 1 (by omega);have G:=du 2 (by omega);rw [add_add] at E F G;exact⟨(X,Y,Z),by simpa using E,by simpa using F,by simpa using G,AS w0,AS w1,AS w2⟩
  obtain⟨f,u⟩:=choose_lt g;refine⟨some x,e,t,(List.range e).map f,nY,⟨by simp,(λh=>by cases h),λy U i r=>?_,λq w=>?_⟩,by omega⟩
  .cases U;have nj:i<e:=(by simpa using r);obtain⟨z,A,C,_⟩:=u i nj;obtain⟨z0,_⟩:=u 0 (by omega);obtain⟨b,o,p⟩:=x;have TK:p=none:=(by simpa [Addr.add] using World.cell?_spot z0);subst TK;rw [aK] at z A C;exact⟨b,o,rfl,by simpa using z,by simpa [Nat.add_assoc] using A,by simpa [Nat.add_assoc] using C⟩
  .obtain⟨i,r,rfl⟩:=List.mem_map.1 w;exact(u i (List.mem_range.1 r)).2.2.2
theorem kS.old {W:World} {a:Option Addr} {l:List P3} (h:kS W a n l):∀x,a=some x->0<n->x.block<W.heap.size:=λx e d=>by
 obtain⟨b,o,rfl,c,_⟩:=h.2.2.1 x e 0 (by rw [h.1];exact d);exact World.block_lt_of_cell? _ _ c
theorem nQ {d:DataW H} {J:List MemPlace} (h:DataW.trod enc prog W base spare held fuel 22 [v]=some (d,J)) (P:∀n∈d.weights prog 22,n<=reachBytes):
  ∃a n c,v= .slice a n c/\kt W W.heap.size a n/\104*n<=140737488355328:=by
 rcases open_slice underlying22 h with ⟨nY,_⟩|⟨x,e,G,m,k,D,Pl,nY,_,hl,F,BV,hd,p⟩
 .simp only [List.cons.injEq,and_true] at nY;exact⟨none,0,0,nY,⟨λ_=>rfl,(λx p=>by cases p)⟩,dU _⟩
 .simp only [List.cons.injEq,and_true] at nY;simp only [Prod.mk.injEq] at hd;replace hd:=hd.1;subst hd;have xw:e<=m:=by rw [BV];split <;> omega
  have K:=P ((((List.range e).map D).length+((List.range (m-e)).map λj=>D (e+j)).length)*prog.bytesOf 41) (by simp [DataW.weights,underlying22]);rw [TJ] at K;simp only [List.length_map,List.length_range,reachBytes] at K;rw [AR] at p;have g:∀i,i<e->∀n∈(D i).weights prog 41,n<=reachBytes:=λi E n hn=>P n (by
   simp only [DataW.weights,underlying22];exact List.mem_cons_of_mem _ (List.mem_append_left _ (py (List.mem_map.2 ⟨i,List.mem_range.2 E,rfl⟩) hn)))
  refine⟨some x,e,G,nY,⟨(λh=>by cases h),λy hy i E=>?_⟩,by omega⟩;cases hy;obtain⟨cs',e1,e2⟩:=p i (by omega);obtain⟨_,L,du⟩:=World.cells?_some e1;obtain⟨v0,v1,v2,v3,v4,v5,v6,v7,v8,y0,y1,y2,y3,y4,y5,y6,k',rfl,_,g0,g1,g2,g3,g4,g5,g6,I,ak8⟩:=Yr underlying41 AR rfl rfl rfl rfl rfl rfl rfl fK fK fK fK yD AQ vE e2;obtain⟨a,na,ca,l,rfl,N,hb,hc,fZ⟩:=jV g4 (λm F=>g i E m (I m F));obtain⟨pa,pn,pc,J,rfl,M,nr⟩:=Lx g5 (λm F=>g i E m (ak8 m F));obtain⟨u6,u7,u8,t6,t7,t8,k6,O,_,s6,s7,s8⟩:=Xf underlying39 vE rfl rfl rfl fK fK fK g6;simp only [List.cons.injEq,and_true] at O;obtain⟨rfl,rfl,rfl⟩:=O;obtain⟨n0,Q,_,w0⟩:=DataW.trod_int underlying3 g0;obtain⟨n1,R,_,w1⟩:=DataW.trod_int underlying3 g1;obtain⟨n2,S,_,w2⟩:=DataW.trod_int underlying3 g2;obtain⟨n3,T,_,w3⟩:=DataW.trod_int underlying3 g3;obtain⟨n6,U,_,w6⟩:=DataW.trod_int underlying3 s6;obtain⟨n7,X,_,w7⟩:=DataW.trod_int underlying3 s7;obtain⟨n8,Y,_,w8⟩:=DataW.trod_int underlying3 s8;simp only [List.cons.injEq,and_true] at Q R S T U X Y;subst Q R S T U X Y;have f:=du 0 (by omega);have r:=du 1 (by omega);have s:=du 2 (by omega);have t:=du 3 (by omega);have u:=du 4 (by omega);have w:=du 5 (by omega);have z:=du 6 (by omega);have A:=du 7 (by omega);have C:=du 8 (by omega);rw [add_add] at f r s t u w z A C;obtain⟨cs0,z1,z2⟩:=p 0 (by omega);obtain⟨b0,b1,b2,b3,b4,b5,b6,b7,b8,_,_,_,_,_,_,_,_,rfl,_⟩:=Yr underlying41 AR rfl rfl rfl rfl rfl rfl rfl fK fK fK fK yD AQ vE z2;obtain⟨_,_,afU⟩:=World.cells?_some z1;have Z:=afU 0 (by omega);rw [add_add] at Z;obtain⟨b,o,q⟩:=x;have TK:q=none:=by simpa [Addr.add] using World.cell?_spot Z
  subst TK;rw [aK] at f r s t u w z A C;simp at f r s t u w z A C;exact⟨b,o,rfl,World.block_lt_of_cell? _ _ f,n0,n1,n2,n3,a,na,ca,pa,pn,pc,n6,n7,n8,l,J,f,by simpa [Nat.add_assoc] using r,by simpa [Nat.add_assoc] using s,by simpa [Nat.add_assoc] using t,by simpa [Nat.add_assoc] using u,by simpa [Nat.add_assoc] using w,by simpa [Nat.add_assoc] using z,by simpa [Nat.add_assoc] using A,by simpa [Nat.add_assoc] using C,⟨AS w1,AS w2,N,hb,hc,fZ,N.old,M,M.old,nr⟩⟩
end
end
end Go.Proofs.YtenlkgicpllbhaaGreat
