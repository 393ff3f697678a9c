import Derived.Test.YtenlkgicpllbhaaGreatW01
import Derived.Test.YtenlkgicpllbhaaGreatW02
import Derived.Test.YtenlkgicpllbhaaGreatW08
import Derived.Scope
import Derived.WalkMore
import Derived.Deep.RegionLaw
import Derived.BigRegion
set_option maxRecDepth 20000
set_option maxHeartbeats 8000000
set_option linter.all false
namespace Go.Proofs.YtenlkgicpllbhaaGreat
open Go.Proofs.Tryz
open Go.RowKit Go.Maps
variable {cur:Array Value} {S:DS} {x:Int} {ps:List (Nat×List Int)} {c d l:List Int} {ls xs:List Value} {E N P base cl f g gl i j k n q s size:Nat} {F G:Nat->Prop} {e e':TypeId} {v:Value} {W w w':World}
section
theorem mM {S:DS} {g a:Nat->DS->Int×DS}:∀k,(∀j T,j<k->g j T=a j T)->stepsTo S g k=stepsTo S a k
 |0,_=>rfl
 |k+1,h=>by
  rw [stepsTo,stepsTo,mM (S:=S) k (λj T b=>h j T (by omega)),h k _ (by omega)]
def rp (L:LG) (S:DS) (s:Nat) (d:List Int) (xs:List Nat):Int×DS:=stepsTo S (λj T=>jM T s L.f L.n L.ep (L.head+j) j (cY d.length) (partOf d (xs.getD j 0))) xs.length
theorem Nx {L:LG} {S:DS} {s:Nat} {d:List Int} {xs:List Nat} (x:Nat) (h:(rp L S s d xs).1=0):
  rp L S s d (xs ++ [x])=jM (rp L S s d xs).2 s L.f L.n L.ep (L.head+xs.length) xs.length (cY d.length) (partOf d x):=by
 have e:stepsTo S (λj T=>jM T s L.f L.n L.ep (L.head+j) j (cY d.length) (partOf d ((xs ++ [x]).getD j 0))) xs.length=rp L S s d xs:=by
  unfold rp;refine mM _ (λj T a=>?_);rw [show (xs ++ [x]).getD j 0=xs.getD j 0 by simp [List.getElem?_append_left a]]
 unfold rp at*;rw [dT,List.length_singleton,jm (by rw [e];exact h),e];simp
theorem zh {L:LG} {S:DS} {s:Nat} {d:List Int} (k:Nat):rp L S s d (List.range k)=cP L S s d k:=by
 unfold rp cP;rw [List.length_range];refine mM _ (λj T a=>?_);rw [show (List.range k).getD j 0=j by simp [a]]
theorem Cx (S:DS) (s f n E P i c:Nat) (l:List Int):(jM S s f n E P i c l).2.puts.length<=S.puts.length+1:=by
 unfold jM;split
 .simp
 .exact i9 _ _ _ _ _
theorem Ny (L:LG) (S:DS) (s:Nat) (d:List Int) (xs:List Nat):(rp L S s d xs).2.puts.length<=S.puts.length+xs.length:=ou (λ_ _=>Cx _ _ _ _ _ _ _ _ _) _
theorem aa.grown {w W W':World} {F:Nat->Prop} {row:Option Nat} (h:aa F w W) (a:W.grownBy W' row) (d:∀r,row=some r->w.heap.size<=r):aa F w W':=
 h.trans (G:=λk=>some k=row) ⟨a.os,a.tape,a.output,a.size,λk b c=>a.block k b c⟩ (λk b=> .inr (d k b.symm))
section
variable {w W W':World} {F:Nat->Prop} {l p s m M n0:Nat} {L:LG} {S:DS} {d:List Int} {xs:List Nat}
end
end
section
open Go.RowKit Go.Shelf
attribute [local go_sem] Oper.semAt_some
theorem Src.sub {w:World} {b o:Nat} {l:List Int} (h:Src w (some (aD b o)) n l) (i k:Nat) (g:i+k<=n):Src w (some ⟨b,o+i,none⟩) k ((l.drop i).take k):=by
 have j:=h.1;refine⟨by simp;omega,by simp,?_⟩;intro z f t e;cases f;have h0:=h.2.2 _ rfl (i+t) (by omega);have c:(Addr.add (aD b o) (i+t))=Addr.add ⟨b,o+i,none⟩ t:=by
  unfold Addr.add;by_cases d:i+t=0
  .obtain⟨rfl,rfl⟩:i=0/\t=0:=(by omega);simp
  .by_cases a:t=0
   .subst a;rw [aA d,aE rfl];rfl
   .simp [a,Nat.add_assoc]
 rw [c] at h0;rw [h0];congr 2;simp [List.getD,e]
theorem EY {w:World} {F:Nat->Prop} {a m:Nat} (b:∀j,F j->j<w.heap.size) (c:w.heap.size<=k) (d:k<a):¬FC F a m W k:=λh=>by
 rcases h.1 with h|h
 .have:=b k h;omega
 .omega
theorem oy (h:Bytes d) (k:Nat):Bytes (partOf d k):=λv a=>h v (List.mem_of_mem_drop (List.mem_of_mem_take a))
section
variable {w:World} {F:Nat->Prop} {p s l:Nat} {S:DS} {L:LG}
theorem jC {x:Nat} (h:L.fN S x=0):L.bd S=0/\1<=x/\x<=8364/\L.head+cY x<=1073741824/\L.head+cY x<=L.tail+L.n:=by
 unfold LG.fN at h;split at h
 .exact absurd h (by assumption)
 .rename_i h0;split at h
  .omega
  .split at h
   .omega
   .split at h
    .omega
    .split at h
     .omega
     .refine⟨by omega,by omega,by omega,by omega,by omega⟩
end
end
theorem Vq (S:DS) (k:Nat) (l:List Int) (j:Nat):(S.put k l).now j=if j=k then l else S.now j:=by
 have e:ar (S.put k l).puts j=if j=k then ar S.puts k ++ [l] else ar S.puts j:=ij _ _ _ _;by_cases h:j=k
 .subst h;simp [DS.now,DS.gB,e]
 .have a:ar (S.put k l).puts j=ar S.puts j:=by rw [e,aA h]
  have b:(S.put k l).im=S.im:=rfl;simp [DS.now,DS.gB,a,b,h]
theorem jD (a:S.fuse≠0) (b:k<s) (l:List Int) (j:Nat):(S.wr s (k:Int) 512 l).2.now j=if j=k then l else S.now j:=by
 rw [oO a b];exact Vq S k l j
theorem tP (h:S.Ok s) (d:S.fuse≠0) (c:k<s) (e:l.length=512):(S.wr s (k:Int) 512 l).2.Ok s:=by
 rw [oO d c];refine⟨h.len,h.lo,h.hi,λq a=>?_,?_⟩
 .have b:q∈S.puts ++ [(k,l)]:=a;rcases List.mem_append.1 b with a|a
  .exact h.puts q a
  .rw [List.mem_singleton.1 a];exact⟨c,e⟩
 .have:=h.fuse;show-1<=(if 0<S.fuse then S.fuse-1 else S.fuse)/\(if 0<S.fuse then S.fuse-1 else S.fuse)<=_;split <;> omega
theorem eU (h:S.Ok s) (a:j<s):(S.fl s).2.now j=S.now j:=by
 unfold DS.fl;split
 .rfl
 .show (S.flush s).now j=S.now j;rw [tj _ _ rfl];exact nw s S.now (λk b=>br h k b) j a
theorem qx (h:S.Ok s):(S.fl s).2.Ok s:=by
 unfold DS.fl;split
 .exact h
 .refine⟨pk s _ (λk a=>br h k a),h.lo,h.hi,(λq b=>by cases b),?_⟩;have:=h.fuse;show-1<=(if 0<S.fuse then S.fuse-1 else S.fuse)/\(if 0<S.fuse then S.fuse-1 else S.fuse)<=_;split <;> omega
theorem kq (S:DS) (s:Nat) (x:Int) (n:Nat) (l:List Int):(S.wr s x n l).2.life=S.life:=by
 unfold DS.wr;split
 .rfl
 .split
  .rfl
  .split <;> rfl
theorem fO (S:DS) (s:Nat):(S.fl s).2.life=S.life:=by
 unfold DS.fl;split <;> rfl
theorem jf (h:(S.fl s).1=0):(S.fl s).2.puts= []:=by
 unfold DS.fl at*;split at h
 .simp at h
 .rename_i q;rw [aA q];rfl
theorem lf (h:(S.fl s).1≠0):(S.fl s).2=S/\S.fuse=0/\(S.fl s).1=3:=by
 unfold DS.fl at*;split at h
 .rename_i q;rw [aE q];exact⟨rfl,q,rfl⟩
 .exact absurd rfl h
theorem Q2 (b:k<s) (h:(S.wr s (k:Int) 512 l).1≠0):(S.wr s (k:Int) 512 l).2=S/\S.fuse=0:=by
 by_cases a:S.fuse=0
 .unfold DS.wr;rw [aE a];exact⟨rfl,a⟩
 .rw [oO a b] at h;exact absurd rfl h
theorem Ma (h:(S.wr s (k:Int) 512 l).1=0):S.fuse≠0:=λa=>by
 unfold DS.wr at h;rw [aE a] at h;simp at h
theorem is {r:List Int} (b:l.length=512) (c:r.length=512) (a:1<=N) (h:(am l r).2.1<N):(aN l r (N:Int) []).2.2=0:=by
 unfold aN;rw [aA (by omega),aA (by omega),aA (by simp)];simp only;rw [aA (by omega)];split <;> rfl
theorem J3 {r:List Int} (c:l.length=512) (d:r.length=512) (a:1<=N) (b:N<9223372036854775808) (h:(am l r).2.1<N):
    (am (yC l r (aN l r (N:Int) []).1 (aN l r (N:Int) []).2.1).1 (yC l r (aN l r (N:Int) []).1 (aN l r (N:Int) []).2.1).2).2.1=N:=by
 have e:(aN l r (N:Int) [])=if (am l r).2.2.2=0/\(am l r).1=0 then (1,be (cD (r.getD 0 0) (r.getD 511 0)) (aQ N ++ []),0) else (0,be (cD (l.getD 0 0) (l.getD 511 0)) (aQ N ++ []),0):=by
  unfold aN;rw [aA (by omega),aA (by omega),aA (by simp)];simp only;rw [aA (by omega),Int.toNat_natCast]
 rw [e];by_cases q:(am l r).2.2.2=0/\(am l r).1=0
 .rw [aE q];have:=tw (data:= []) c d b a (by simp) h (t:=cD (r.getD 0 0) (r.getD 511 0)) (by have:=gd (r.getD 0 0) (r.getD 511 0);omega) 1 (by rw [aE q]);simp only;rw [this]
 .rw [aA q];have:=tw (data:= []) c d b a (by simp) h (t:=cD (l.getD 0 0) (l.getD 511 0)) (by have:=gd (l.getD 0 0) (l.getD 511 0);omega) 0 (by rw [aA q]);simp only;rw [this]
theorem iJ (S:DS) (s f:Nat) (num:Int):(cW S s f num).2.life=S.life:=by
 unfold cW;split
 .rfl
 .split
  .rfl
  .split
   .exact kq _ _ _ _ _
   .rw [fO,kq]
def DS.num (S:DS) (f:Nat):Nat:=(am (S.now f) (S.now (f+1))).2.1
theorem tQ (h:S.Ok s) (c:f+1<s) (b:1<=N) (g:N<9223372036854775808) (bm:S.num f<N) (h0:(cW S s f (N:Int)).1=0):(cW S s f (N:Int)).2.num f=N/\(cW S s f (N:Int)).2.puts= []:=by
 have d:=br h f (by omega);have e:=br h (f+1) c;have dh:=is d e b bm;have a:=J3 d e b g bm;have mL:=fL (S.now f) (S.now (f+1)) (N:Int) [];have Ff:=kD (S.now f) (S.now (f+1)) (N:Int) [] dh;unfold cW at*;split at h0
 .simp at h0
 .rename_i zi;rw [aA zi];rw [aA (by omega)] at h0⊢;generalize aN (S.now f) (S.now (f+1)) (N:Int) []=Y at*;rw [show (f:Int)+(Y.1:Int)=((f+Y.1:Nat):Int) by omega] at h0⊢;have J4:(S.wr s ((f+Y.1:Nat):Int) 512 Y.2.1).1=0:=by rw [oO zi (by omega)]
  rw [aA (by omega)] at h0⊢;have Nz:=tP h zi (show f+Y.1<s by omega) Ff;refine⟨?_,jf h0⟩;unfold DS.num;rw [eU Nz (by omega),eU Nz c,jD zi (by omega),jD zi (by omega)];unfold yC at a;by_cases q:Y.1=0
  .rw [q] at a⊢;rw [aE (by omega),aA (by omega)];rw [aE rfl] at a;exact a
  .have i:Y.1=1:=(by omega);rw [i] at a⊢;rw [aA (by omega),aE rfl];rw [aA (by omega)] at a;exact a
theorem pN {num:Int} (c:f+1<s) (dh:(aN (S.now f) (S.now (f+1)) num []).2.2=0) (h0:(cW S s f num).1≠0):(cW S s f num).2.fuse=0/\(cW S s f num).2.puts.length<=S.puts.length+1:=by
 have mL:=fL (S.now f) (S.now (f+1)) num [];unfold cW at*;split at h0
 .rename_i zi;rw [aE zi];exact⟨zi,Nat.le_succ _⟩
 .rename_i zi;rw [aA zi];rw [aA (by omega)] at h0⊢;generalize aN (S.now f) (S.now (f+1)) num []=Y at*;rw [show (f:Int)+(Y.1:Int)=((f+Y.1:Nat):Int) by omega] at h0⊢;have J4:(S.wr s ((f+Y.1:Nat):Int) 512 Y.2.1).1=0:=by rw [oO zi (by omega)]
  rw [aA (by omega)] at h0⊢;obtain⟨a,b,_⟩:=lf h0;rw [a];exact⟨b,i9 _ _ _ _ _⟩
theorem NA (S:DS) (s f n E P i c:Nat) (l:List Int):(jM S s f n E P i c l).2.life=S.life:=by
 unfold jM;split
 .rfl
 .exact kq _ _ _ _ _
theorem Q3 {c:Nat} (b:1<=n) (e:f+2+n<=s) (d:j<f+2):(jM S s f n E P i c l).2.now j=S.now j:=by
 have:=Nat.mod_lt P b;unfold jM;split
 .rfl
 .rename_i a;rw [jD a (by omega),aA (by omega)]
theorem Q4 {c:Nat} (b:1<=n) (d:f+2+n<=s) (h:(jM S s f n E P i c l).1≠0):(jM S s f n E P i c l).2.fuse=0:=by
 have:=Nat.mod_lt P b;unfold jM at*;split at h
 .rename_i a;rw [aE a];exact a
 .rename_i a;rw [oO a (by omega)] at h;exact absurd rfl h
theorem mu {L:LG} {S:DS} {s:Nat} {d:List Int} (a:1<=L.n) (b:L.f+2+L.n<=s):∀k,(cP L S s d k).2.life=S.life/\(∀j,j<L.f+2->(cP L S s d k).2.now j=S.now j)/\((cP L S s d k).1≠0->(cP L S s d k).2.fuse=0)/\(cP L S s d k).2.puts.length<=S.puts.length+k
 |0=>⟨rfl,λ_ _=>rfl,λh=>absurd rfl h,bP _⟩
 |k+1=>by
  obtain⟨c,g,l,m⟩:=mu (L:=L) (S:=S) (d:=d) a b k;by_cases e:(cP L S s d k).1=0
  .have:cP L S s d (k+1)=jM (cP L S s d k).2 s L.f L.n L.ep (L.head+k) k (cY d.length) (partOf d k):=jm e;rw [this];refine⟨(NA _ _ _ _ _ _ _ _ _).trans c,λj i=>(Q3 a b i).trans (g j i),λh=>Q4 a b h,?_⟩;have:=Cx (cP L S s d k).2 s L.f L.n L.ep (L.head+k) k (cY d.length) (partOf d k);omega
  .have:cP L S s d (k+1)=cP L S s d k:=gw e (k+1) (by omega);rw [this];exact⟨c,g,l,by omega⟩
theorem lw {S:DS} {s f n:Nat} (h:S.Ok s) (o:f+n<=s):∀k,k<=n->(bA S s f k).2.life=S.life/\(bA S s f k).2.Ok s/\((bA S s f k).1≠0->(bA S s f k).2.fuse=0)/\((bA S s f k).1=0->∀j,j<k->(bA S s f k).2.now (f+j)=zs 512)
 |0,_=>⟨rfl,h,λh=>absurd rfl h,λ_ j m=>by omega⟩
 |k+1,hk=>by
  obtain⟨c,d,i,l⟩:=lw h o k (by omega);by_cases e:(bA S s f k).1=0
  .have b:bA S s f (k+1)=(bA S s f k).2.wr s ((f+k:Nat):Int) 512 (zs 512):=jm e;rw [b];by_cases a:(bA S s f k).2.fuse=0
   .have g:(bA S s f k).2.wr s ((f+k:Nat):Int) 512 (zs 512)=(3,(bA S s f k).2):=(by unfold DS.wr;rw [aE a]);rw [g];exact⟨c,d,λ_=>a,λh=>by simp at h⟩
   .refine⟨(kq _ _ _ _ _).trans c,tP d a (by omega) (bB 512),λh=>?_,λ_ j m=>?_⟩
    .rw [oO a (by omega)] at h;exact absurd rfl h
    .rw [jD a (by omega)];by_cases q:j=k
     .rw [aE (by omega)]
     .rw [aA (by omega)];exact l e j (by omega)
  .have b:bA S s f (k+1)=bA S s f k:=gw e (k+1) (by omega);rw [b];exact⟨c,d,i,λh=>absurd h e⟩
theorem tR:(sanchor (zs 512)).1=0:=by
 have a:dH (zs 512)= []:=by
  unfold dH;rw [show dM (zs 512)=0 from by unfold dM;rw [show (zs 512).getD 1 0=0 from rfl,show (zs 512).getD 2 0=0 from rfl];rfl];exact List.take_zero
 have b:sanchor (zs 512)=(0, []):=by
  refine fg ?_;unfold fv;split
  .exact .inr ⟨_,rfl, .inl (by rw [a];decide)⟩
  .exact .inl rfl
 rw [b]
theorem DW:(am (zs 512) (zs 512)).2.1=0:=by
 rw [lN (bB 512) (bB 512),aE ⟨tR,tR⟩]
theorem kF (h:S.Ok s) (k:f+2+n<=s):(cK S s f n).2.life=S.life/\(cK S s f n).2.Ok s/\((cK S s f n).1≠0->(cK S s f n).2.fuse=0)/\((cK S s f n).1=0->(cK S s f n).2.num f=0/\(cK S s f n).2.puts= []):=by
 obtain⟨b,a,i,c⟩:=lw (f:=f) h (n:=n+2) (by omega) (n+2) (bP _);unfold cK;by_cases e:(bA S s f (n+2)).1=0
 .rw [aA (by omega)];refine⟨(fO _ _).trans b,qx a,λh=>?_,λh=>⟨?_,jf h⟩⟩
  .obtain⟨d,g,_⟩:=lf h;rw [d];exact g
  .unfold DS.num;have j:(bA S s f (n+2)).2.now f=zs 512:=c e 0 (by omega);rw [eU a (by omega),eU a (by omega),j,(c e 1 (by omega))];exact DW
 .rw [aE e];exact⟨b,a,i,λh=>absurd h e⟩
section
def LG.Fit (L:LG) (S:DS):Prop:=
   (L.begun=true->S.puts.length<=L.head-L.tail/\S.num L.f<=L.ep*4294967296+L.tail)/\(L.begun=false->S.puts.length=0/\S.num L.f<(L.top+1)*4294967296)
theorem jr {t:Nat} (h0:0<=x) (a:x<=t) (b:t<=1000000000000000000):wrap64 (x+1)=x+1:=by
 unfold wrap64;omega
section
variable {S S':DS} {s t i:Nat} {ls:List LG} {L L':LG}
theorem DX (h:S.Ok s) (a:f+1<s):(S.fl s).2.num f=S.num f:=by
 unfold DS.num;rw [eU h (by omega),eU h a]
def LG.opened (S:DS) (f n hd:Nat):LG:={LG.new S f n with ep:=(bV S f).1,tail:=(bV S f).2.1,head:=hd,top:=ia S f n}
end
end
section
namespace V
structure Inv (S:DS) (s:Nat) (ls:List LG) (t:Nat):Prop where
 ok:S.Ok s
 pO:S.fC
 p6:S.puts.length<=6000
 p2:S.fuse≠0->S.puts.length<=256
 l0:0<=S.life
 lt:S.life<=t
 ol:∀L∈ls,L.Ok s/\L.life<=S.life
 li:(ls.map LG.life).Pairwise (·< ·)
 al:∀L∈ls,L.life=S.life->S.fuse≠0->L.Fit S
theorem jr {t:Nat} (h0:0<=x) (a:x<=t) (b:t<=1000000000000000000):wrap64 (x+1)=x+1:=by
 unfold wrap64;omega
section
variable {S S':DS} {s t i:Nat} {ls:List LG} {L L':LG}
theorem Inv.zero (c:S.Ok s) (pO:S.fC) (d:S.puts.length=0) (a:0<=S.life) (b:S.life<=t):Inv S s [] t:=
   ⟨c,pO,by omega,λ_=>by omega,a,b,λ_ h=>(by cases h),List.Pairwise.nil,λ_ h=>(by cases h)⟩
theorem Inv.step (h:Inv S s ls t):Inv S s ls (t+1):=⟨h.ok,h.pO,h.p6,h.p2,h.l0,by have:=h.lt;omega,h.ol,h.li,h.al⟩
theorem Inv.next (h:Inv S s ls t) (b:S'.Ok s) (pO:S'.fC) (d:S'.puts.length<=6000) (c:S'.fuse≠0->S'.puts.length<=256) (f:S'.life=S.life+1):Inv S' s ls (t+1):=by
 refine⟨b,pO,d,c,by have:=h.l0;omega,by have:=h.lt;omega,λL a=>⟨(h.ol L a).1,?_⟩,h.li,λL a e=>?_⟩
 .have:=(h.ol L a).2;omega
 .have:=(h.ol L a).2;omega
theorem Inv.at (h:Inv S s ls t) (a:ls[i]? =some L):L.Ok s/\L.life<=S.life:=h.ol L (gu a)
theorem pP (h:(ls.map LG.life).Pairwise (·< ·)) (g:ls[i]? =some L) (k:ls[j]? =some L') (e:L'.life=L.life):j=i:=by
 rw [List.pairwise_iff_getElem] at h;obtain⟨d,b⟩:=mG.1 g;obtain⟨f,c⟩:=mG.1 k;rcases Nat.lt_trichotomy j i with a|a|a
 .have:=h j i (by simpa using f) (by simpa using d) a;simp only [List.getElem_map,b,c] at this;omega
 .exact a
 .have:=h i j (by simpa using d) (by simpa using f) a;simp only [List.getElem_map,b,c] at this;omega
theorem Inv.on (h:Inv S s ls t) (g:ls[i]? =some L) (p:L.life=S.life) (l:S'.Ok s) (pO:S'.fC) (q:S'.life=S.life) (m:S'.puts.length<=6000) (b:L'.Ok s) (MS:L'.life=L.life) (c:S'.fuse≠0->L'.Fit S'):Inv S' s (ls.set i L') t:=by
 have bm:=(mG.1 g).1;have rj:∀M∈ls.set i L',M=L'\/∃j,j≠i/\ls[j]? =some M:=λM d=>by
  obtain⟨j,a⟩:=List.mem_iff_getElem?.1 d;by_cases e:j=i
  .subst e;rw [List.getElem?_set_self bm] at a;exact .inl (Option.some.inj a).symm
  .rw [List.getElem?_set_ne (λh=>e h.symm)] at a;exact .inr ⟨j,e,a⟩
 refine⟨l,pO,m,λf=>?_,by have:=h.l0;omega,by have:=h.lt;omega,λM d=>?_,?_,λM d e f=>?_⟩
 .have:=c f;unfold LG.Fit at this;have n:=b.hn;have o:=b.n2;cases k:L'.begun with
  |true=>have:=(this.1 k).1;omega
  |false=>have:=(this.2 k).1;omega
 .rcases rj M d with rfl|⟨j,_,a⟩
  .exact⟨b,by omega⟩
  .have:=h.at a;exact⟨this.1,by omega⟩
 .rw [List.map_set,MS];have:ls.map LG.life=(ls.map LG.life).set i L.life:=by
   apply List.ext_getElem?;intro j;by_cases e:j=i
   .subst e;rw [List.getElem?_set_self (by simpa using bm),Bd,g];rfl
   .rw [List.getElem?_set_ne (λh=>e h.symm)]
  rw [<-this];exact h.li
 .rcases rj M d with rfl|⟨j,dG,a⟩
  .exact c f
  .exact absurd (pP h.li g a (by omega)) dG
theorem Inv.same (h:Inv S s ls t) (a:ls[i]? =some L):Inv S s (ls.set i L) t:=by
 have:ls.set i L=ls:=by
  apply List.ext_getElem?;intro j;by_cases e:j=i
  .subst e;rw [List.getElem?_set_self (mG.1 a).1,a]
  .rw [List.getElem?_set_ne (λh=>e h.symm)]
 rw [this];exact h
theorem jE (h:L.dead S=false):L.life=S.life/\S.fuse≠0:=by
 unfold LG.dead at h;rw [Bool.or_eq_false_iff] at h;have a:=h.1;rw [eG] at a;have:S.life=L.life:=by simpa using h.2
 exact⟨this.symm,a⟩
theorem j2 (h:L.bd S=0):L.dead S=false/\L.begun=true:=by
 unfold LG.bd at h;split at h
 .omega
 .rename_i a;split at h
  .rename_i b;exact⟨by simpa using a,b⟩
  .omega
theorem DX (h:S.Ok s) (a:f+1<s):(S.fl s).2.num f=S.num f:=by
 unfold DS.num;rw [eU h (by omega),eU h a]
theorem Inv.take (h:Inv S s ls t) (a:t<=1000000000000000000):Inv S.take s ls (t+1):=
 h.next ⟨h.ok.len,h.ok.lo,h.ok.hi,h.ok.puts,h.ok.fuse⟩ h.pO.take h.p6 h.p2 (jr h.l0 h.lt a)
theorem Inv.il (h:Inv S s ls t) (a:t<=1000000000000000000) (l:List P3) (b:(S.il s l).Ok s):Inv (S.il s l) s ls (t+1):=
 h.next b (h.pO.il s l) (dU _) (λ_=>dU _) (jr h.l0 h.lt a)
theorem Q5 (S:DS) (x:Int):(S.lay x).puts=S.puts/\(S.lay x).life=S.life/\(S.lay x).im=S.im/\((S.lay x).fuse≠0->S.fuse≠0):=by
 unfold DS.lay;split
 .exact⟨rfl,rfl,rfl,λh=>h⟩
 .rename_i h;exact⟨rfl,rfl,rfl,λ_=>h⟩
theorem Inv.lay (h:Inv S s ls t) (x:Int) (j:(S.lay x).Ok s):Inv (S.lay x) s ls t:=by
 obtain⟨a,b,i,f⟩:=Q5 S x;refine⟨j,h.pO.lay x,by rw [a];exact h.p6,λd=>by rw [a];exact h.p2 (f d),by rw [b];exact h.l0,by rw [b];exact h.lt,λL c=>by rw [b];exact h.ol L c,h.li,λL c e d=>?_⟩;have:=h.al L c (by rw [<-b];exact e) (f d);have g:∀k,(S.lay x).now k=S.now k:=λk=>by unfold DS.now DS.gB;rw [a,i]
 unfold LG.Fit DS.num at*;rw [g,g,a];exact this
theorem Inv.sync (h:Inv S s ls t) (a:ls[i]? =some L):Inv (L.sync S s).2 s (ls.set i L) t:=by
 unfold LG.sync;split
 .exact h.same a
 .rename_i k;obtain⟨hd,f⟩:=j2 (Decidable.of_not_not k);obtain⟨d,g⟩:=jE hd;have b:=(h.at a).1;have m:=b.s;have l:=b.n1;by_cases e:(S.fl s).1=0
  .have j:=jf e;refine h.on a d (qx h.ok) (h.pO.fl s) (fO S s) (by rw [j];exact dU _) b rfl (λ_=>⟨λ_=>⟨by rw [j];exact dU _,?_⟩,λc=>by rw [f] at c;cases c⟩);rw [DX h.ok (by omega)];exact((h.al L (gu a) d g).1 f).2
  .have:=lf e;exact absurd this.2.1 g
theorem Inv.start (h:Inv S s ls t) (d:ls[i]? =some L) (a:(L.start S s).2.1.Ok s):Inv (L.start S s).2.1 s (ls.set i (L.start S s).2.2) t:=by
 unfold LG.start at*;split
 .exact h.same d
 .rename_i hd;rw [aA hd] at a;obtain⟨j,n⟩:=jE (by simpa using hd:L.dead S=false);split
  .exact h.same d
  .rename_i k;rw [aA k] at a;have eC:L.begun=false:=(by simpa using k);have b:=(h.at d).1;have Fo:=(h.al L (gu d) j n).2 eC;obtain⟨q,o,r⟩:=jw b.s b.n1 b.top;have l:(((L.top+1:Nat):Int)*4294967296+((0:Nat):Int))=(((L.top+1)*4294967296:Nat):Int):=(by omega);rw [l] at a⊢;obtain⟨N,m⟩:=bQ ((L.top+1)*4294967296);rw [<-m] at a Fo⊢;have p:=is (br h.ok L.f (by omega)) (br h.ok (L.f+1) (by omega)) (N:=N) (by omega) Fo.2;split
   .rename_i h0;rw [aE h0] at a;obtain⟨e,g⟩:=pN (by omega) p h0
    dsimp only at a⊢
    exact h.on d j a (h.pO.cW s L.f _) (iJ _ _ _ _) (by omega) b rfl (λc=>absurd e c)
   .rename_i h0;rw [aA h0] at a;obtain⟨e,g⟩:=tQ (s:=s) (f:=L.f) (N:=N) h.ok (by omega) (by omega) (by omega) Fo.2 (Decidable.of_not_not h0)
    dsimp only at a⊢
    refine h.on d j a (h.pO.cW s L.f _) (iJ _ _ _ _) (by rw [g];exact dU _) ⟨q,o,b.n2,by show L.top+1<=_;omega,b.top,bP _,by show 0<=_;omega,by show 0<=_;omega,λ_=>by show 0<=_;omega⟩ rfl (λ_=>⟨λ_=>⟨by rw [g];exact dU _,?_⟩,λc=>by cases c⟩);show (cW S s L.f (N:Int)).2.num L.f<=(L.top+1)*4294967296+0;rw [e];omega
theorem J5 (h:L.fN S i=0):L.bd S=0/\1<=i/\i<=8364/\L.head+cY i<=1073741824/\L.head+cY i<=L.tail+L.n:=by
 unfold LG.fN at h
 repeat' split at h
 all_goals first|omega|(rename_i a b c d e;exact⟨by omega,by omega,by omega,by omega,by omega⟩)
theorem NB (h:S.fC) (hd:Bytes d) (k:Nat):(cP L S s d k).2.fC:=
 mr h (λj T a=>by
  unfold jM;split
  .exact a
  .exact a.wr s _ _ (vW (mt ((hd.drop _).take _)))) k
theorem Inv.append (h:Inv S s ls t) (e:ls[i]? =some L) (hd:Bytes d) (b:(L.append S s d).2.1.Ok s):Inv (L.append S s d).2.1 s (ls.set i (L.append S s d).2.2) t:=by
 unfold LG.append at*;split
 .exact h.same e
 .rename_i j;rw [aA j] at b;obtain⟨r,jA,l8,p,w⟩:=J5 (Decidable.of_not_not j);obtain⟨yq,k⟩:=j2 r;obtain⟨g,l⟩:=jE yq;have a:=(h.at e).1;have Fo:=(h.al L (gu e) g l).1 k;obtain⟨m,q,mg,dZ,uK⟩:=ey a.s a.n1 a.n2 a.th (h.p2 l);have v:cY d.length<=17:=by unfold cY;omega
  obtain⟨n,o,u,x⟩:=mu (L:=L) (S:=S) (s:=s) (d:=d) (by omega) m (cY d.length);have cZ:=NB (L:=L) (s:=s) h.pO hd (cY d.length);split
  .rename_i h0;rw [aE h0] at b
   dsimp only at b⊢
   exact h.on e g b cZ n (by omega) a rfl (λc=>absurd (u h0) c)
  .rename_i h0;rw [aA h0] at b
   dsimp only at b⊢
   refine h.on e g b cZ n (by omega) ⟨m,q,mg,a.ep,a.top,by show L.tail<=L.head+_;omega,by show L.head+_<=_;omega,by show L.head+_<=_;omega,λ_=>p⟩ rfl (λ_=>⟨λ_=>⟨?_,?_⟩,λc=>by rw [show ({L with head:=L.head+cY d.length}:LG).begun=L.begun from rfl,k] at c;cases c⟩)
   .show _<=L.head+cY d.length-L.tail;omega
   .show DS.num _ L.f<=_;unfold DS.num;rw [o L.f (by omega),o (L.f+1) (by omega)];exact Fo.2
theorem Inv.format (h:Inv S s ls t) (q:t<=1000000000000000000) (f n:Int) (d:(cy S s f n).2.Ok s):Inv (cy S s f n).2 s ls (t+1):=by
 unfold cy at*;split
 .exact h.step
 .rename_i j;rw [aA j] at d;obtain⟨o,a,b,rfl,rfl,oz,aq,aW⟩:=fM (Decidable.of_not_not j);simp only [Int.toNat_natCast] at*;have zj:=jr h.l0 h.lt q;have dh:S.take.Ok s:=⟨h.ok.len,h.ok.lo,h.ok.hi,h.ok.puts,h.ok.fuse⟩;obtain⟨l,g,r,u⟩:=kF (f:=a) (n:=b) dh oz;have x:=sm S.take s a b;have uK:S.take.puts.length<=256:=h.p2 o;split
  .rename_i h0;rw [aE h0] at d;exact h.next d (h.pO.take.QM s a b) (by omega) (λc=>absurd (r h0) c) (l.trans zj)
  .rename_i h0;rw [aA h0] at d;obtain⟨m,v⟩:=u (Decidable.of_not_not h0);have p:=is (br g a (by omega)) (br g (a+1) (by omega)) (N:=4294967296) (by omega) (by show DS.num _ a<_;rw [m];omega);have fy:=(iJ (cK S.take s a b).2 s a 4294967296).trans (l.trans zj);by_cases k:(cW (cK S.take s a b).2 s a 4294967296).1=0
   .obtain⟨i,e⟩:=tQ (s:=s) (f:=a) (N:=4294967296) g (by omega) (by omega) (by omega) (by rw [m];omega) k;have w:(cW (cK S.take s a b).2 s a 4294967296).2.puts.length=0:=congrArg List.length e;exact h.next d ((h.pO.take.QM s a b).cW s a _) (by omega) (λ_=>by omega) fy
   .obtain⟨i,e⟩:=pN (by omega) p k;rw [v] at e;exact h.next d ((h.pO.take.QM s a b).cW s a _) (jQ e (by simp)) (λc=>absurd i c) fy
theorem Inv.xz (h:Inv S s ls t) (b:t<=1000000000000000000) (f n:Int) (a:(bu S s f n).1≠0):Inv (bu S s f n).2 s ls (t+1):=by
 unfold bu at*;split
 .exact h.step
 .rename_i d;rw [aA d] at a;split
  .exact h.take b
  .rename_i e;rw [aA e] at a;split
   .exact h.take b
   .rename_i g;rw [aA g] at a;obtain⟨c,i,_⟩:=lf a;rw [c];exact h.take b
theorem Inv.opened (h:Inv S s ls t) (A:t<=1000000000000000000) (f n:Int) (m:(bu S s f n).2.Ok s) (d:(bu S s f n).1=0) {hd:Nat} (u:(bV S f.toNat).2.1<=hd) (v:hd<=(bV S f.toNat).2.1+n.toNat):Inv (bu S s f n).2 s (ls ++ [LG.opened S f.toNat n.toNat hd]) (t+1):=by
 unfold bu at*;split
 .rename_i l;rw [aE l] at d;exact absurd d l
 .rename_i l;rw [aA l] at m d;split
  .rename_i j;rw [aE j] at d;exact absurd (Int.ofNat_eq_zero.1 d) j
  .rename_i j;rw [aA j] at m d;split
   .rename_i p;rw [aE p] at d;cases d
   .rename_i p;rw [aA p] at m d;obtain⟨z,a,b,rfl,rfl,oz,aq,aW⟩:=fM (Decidable.of_not_not l);simp only [Int.toNat_natCast] at*;have zj:=jr h.l0 h.lt A;have dh:S.take.Ok s:=⟨h.ok.len,h.ok.lo,h.ok.hi,h.ok.puts,h.ok.fuse⟩;have o:=jf d;have fy:(S.take.fl s).2.life=S.life+1:=(fO _ _).trans zj;have E:=xE (Decidable.of_not_not j);have PZ:=xF (n:=b) (Decidable.of_not_not j);have i:=h.next m (h.pO.take.fl s) (by rw [o];exact dU _) (λ_=>by rw [o];exact dU _) fy;have w:(LG.opened S a b hd).life=S.life+1:=zj;refine⟨i.ok,i.pO,i.p6,i.p2,i.l0,i.lt,λM k=>?_,?_,λM k e z=>?_⟩
    .rcases List.mem_append.1 k with g|g
     .exact i.ol M g
     .obtain rfl:=List.mem_singleton.1 g;refine⟨⟨oz,aq,aW,E.2.1,?_,u,v,?_,λc=>by cases c⟩,by omega⟩
      .show ia S a b<_;omega
      .show hd<=_;omega
    .rw [List.map_append,List.pairwise_append];refine⟨h.li,List.pairwise_singleton _ _,λx C y D=>?_⟩;obtain⟨M,k,rfl⟩:=List.mem_map.1 C;have:=(h.ol M k).2;simp only [List.map_cons,List.map_nil,List.mem_singleton] at D;omega
    .rcases List.mem_append.1 k with g|g
     .have:=(h.ol M g).2;omega
     .obtain rfl:=List.mem_singleton.1 g;refine⟨λc=>(by cases c),λ_=>⟨(by rw [o];rfl),?_⟩⟩;rw [show (LG.opened S a b hd).f=a from rfl,DX dh (by omega)];have r:S.take.num a=S.num a:=rfl;have G:(bV S a).1=S.num a / 4294967296:=by
       have q:=Decidable.of_not_not j;unfold bV gU at*;split at q
       .cases q
       .rename_i F;rw [aA F];rfl
      have H:(bV S a).1<=ia S a b:=(by unfold ia;omega);rw [r];show S.num a<(ia S a b+1)*4294967296;omega
end
end V
end
abbrev CM:=List (Nat×List Int)
def CM.get:CM->Nat->Option (List Int)
 | [],_=>none
 |q :: qs,k=>if q.1=k then some q.2 else CM.get qs k
def CM.put:CM->Nat->List Int->CM
 | [],k,c=> [(k,c)]
 |q :: qs,k,c=>if k<q.1 then (k,c) :: q :: qs else if k=q.1 then (k,c) :: qs else q :: CM.put qs k c
def CM.Ok (ms:CM):Prop:=ms.Pairwise (λa b=>a.1<b.1)
def CM.keys (ms:CM):List Nat:=ms.map (·.1)
namespace CM
theorem lO (q:Nat×List Int) (a:CM) (k:Nat):get (q :: a) k=if q.1=k then some q.2 else get a k:=rfl
theorem kG {ms:CM} (h:∀q∈ms,q.1≠k):get ms k=none:=by
 induction ms with
 |nil=>rfl
 |cons q c b=>
  unfold get;rw [aA (h q List.mem_cons_self)];exact b (λx a=>h x (List.mem_cons_of_mem _ a))
theorem get_mem {ms:CM} (h:get ms k=some c):(k,c)∈ms:=by
 induction ms with
 |nil=>cases h
 |cons q b a=>
  unfold get at h;split at h
  .rename_i e;cases h;rw [<-e];exact List.mem_cons_self
  .exact List.mem_cons_of_mem _ (a h)
theorem get_of_mem {ms:CM} (b:Ok ms) (h:(k,c)∈ms):get ms k=some c:=by
 induction ms with
 |nil=>cases h
 |cons q f d=>
  unfold get;rcases List.mem_cons.1 h with e|a
  .rw [<-e,aE rfl]
  .have:=(List.pairwise_cons.1 b).1 (k,c) a;rw [aA (by simp only at this;omega)];exact d (List.pairwise_cons.1 b).2 a
theorem kr (ms:CM) (k:Nat) (c:List Int) (j:Nat) (d:Ok ms):get (put ms k c) j=if j=k then some c else get ms j:=by
 induction ms with
 |nil=>
  unfold put;simp only [get];by_cases e:j=k
  .rw [aE e.symm,aE e]
  .rw [aA (λh=>e h.symm),aA e]
 |cons q g f=>
  unfold put;by_cases b:k<q.1
  .rw [aE b];by_cases e:j=k
   .rw [aE e];unfold get;rw [aE e.symm]
   .rw [aA e]
    conv=>lhs;unfold get
    rw [aA (λh=>e h.symm)]
  .rw [aA b];by_cases a:k=q.1
   .rw [aE a];by_cases e:j=k
    .rw [aE e];unfold get;rw [aE e.symm]
    .rw [aA e]
     conv=>lhs;unfold get
     conv=>rhs;unfold get
     rw [aA (λh=>e h.symm),aA (λh=>e (a▸h.symm))]
   .rw [aA a]
    conv=>lhs;unfold get
    by_cases e:q.1=j
    .rw [aE e,aA (λh=>a (h.symm.trans e.symm))]
     conv=>rhs;unfold get
     rw [aE e]
    .rw [aA e,f (List.pairwise_cons.1 d).2]
     conv=>rhs;rhs;unfold get
     rw [aA e]
theorem qL {ms:CM} {q:Nat×List Int} (h:q∈put ms k c):q=(k,c)\/q∈ms:=by
 induction ms with
 |nil=>
  unfold put at h;exact .inl (List.mem_singleton.1 h)
 |cons x xs a=>
  unfold put at h;split at h
  .rcases List.mem_cons.1 h with h|h
   .exact .inl h
   .exact .inr h
  .split at h
   .rcases List.mem_cons.1 h with h|h
    .exact .inl h
    .exact .inr (List.mem_cons_of_mem _ h)
   .rcases List.mem_cons.1 h with h|h
    .exact .inr (h▸List.mem_cons_self)
    .exact(a h).imp id (List.mem_cons_of_mem _)
theorem uZ {ms:CM} (d:Ok ms) (k:Nat) (c:List Int):Ok (put ms k c):=by
 induction ms with
 |nil=>exact List.pairwise_singleton _ _
 |cons x xs e=>
  have b:=List.pairwise_cons.1 d;unfold put;split
  .rename_i h;refine List.pairwise_cons.2 ⟨λy a=>?_,d⟩;rcases List.mem_cons.1 a with rfl|a
   .exact h
   .exact Nat.lt_trans h (b.1 y a)
  .split
   .rename_i h;exact List.pairwise_cons.2 ⟨λy a=>by show k<y.1;rw [h];exact b.1 y a,b.2⟩
   .rename_i f g;refine List.pairwise_cons.2 ⟨λy a=>?_,e b.2⟩;rcases qL a with rfl|a
    .show x.1<k;omega
    .exact b.1 y a
theorem sv {ms:CM} (g:Ok ms) (k:Nat) (c:List Int):(put ms k c).length=if (get ms k).isSome then ms.length else ms.length+1:=by
 induction ms with
 |nil=>rfl
 |cons x xs i=>
  have f:=List.pairwise_cons.1 g;unfold put;by_cases d:k<x.1
  .rw [aE d,kG (λq b=>by
    rcases List.mem_cons.1 b with rfl|b
    .omega
    .have:=f.1 q b;omega)]
   rfl
  .rw [aA d];by_cases a:k=x.1
   .rw [aE a];unfold get;rw [aE a.symm];rfl
   .rw [aA a];have e:get (x :: xs) k=get xs k:=(by rw [lO,aA (λh=>a h.symm)]);rw [e,List.length_cons,i f.2,List.length_cons];split <;> rfl
theorem ext:∀{ms ns:CM},Ok ms->Ok ns->(∀k,get ms k=get ns k)->ms=ns
 | [], [],_,_,_=>rfl
 | [],q :: qs,_,_,h=>by
  have:=h q.1;unfold get at this;rw [aE rfl] at this;cases this
 |q :: qs, [],_,_,h=>by
  have:=h q.1;unfold get at this;rw [aE rfl] at this;cases this
 |(a,c) :: qs,(b,d) :: rs,h1,h2,h=>by
  have l:=List.pairwise_cons.1 h1;have m:=List.pairwise_cons.1 h2;have f:=h a;have i:=h b;unfold get at f i;rw [aE rfl] at f;by_cases e:a=b
  .subst e;rw [aE rfl] at f;cases f;congr 1;refine ext l.2 m.2 (λk=>?_);by_cases g:k=a
   .subst g;rw [kG (λq j=>by have:=l.1 q j;simp only at this;omega),kG (λq j=>by have:=m.1 q j;simp only at this;omega)]
   .have:=h k;unfold get at this;rwa [aA (λh=>g h.symm),aA (λh=>g h.symm)] at this
  .exfalso;rw [aA (λh=>e h.symm)] at f;rw [aA e,aE rfl] at i;have n:=m.1 _ (get_mem f.symm);have o:=l.1 _ (get_mem i);simp only at n o;omega
theorem Vr {ms:CM} (a:Ok ms):(keys ms).Pairwise (·< ·):=List.Pairwise.map _ (λ_ _ h=>h) a
def bX (ms ns:CM):CM:=ns.foldl (λm q=>put m q.1 q.2) ms
theorem qM {ms:CM} (a:Ok ms):∀(ns:CM),Ok (bX ms ns):=λns=>by
 induction ns generalizing ms with
 |nil=>exact a
 |cons q c b=>exact b (uZ a _ _)
theorem Q6 {ms:CM} (a:Ok ms) (k:Nat):∀{ns:CM},Ok ns->get (bX ms ns) k=(get ns k).or (get ms k):=λ{ns} b=>by
 induction ns generalizing ms with
 |nil=>rfl
 |cons q f d=>
  have p:=List.pairwise_cons.1 b;show get (bX (put ms q.1 q.2) f) k=_;rw [d (uZ a _ _) p.2,kr _ _ _ _ a];rw [lO];by_cases e:k=q.1
  .rw [aE e,aE e.symm,kG (λx c=>by have:=p.1 x c;omega)];rfl
  .rw [aA e,aA (λh=>e h.symm)]
end CM
def fnd:List (Nat×List Int)->Nat->Option (List Int)
 | [],_=>none
 |q :: qs,b=>(fnd qs b).or (if q.1=b then some q.2 else none)
theorem uB {b:Nat} (h:∀q∈ps,q.1≠b):fnd ps b=none:=by
 induction ps with
 |nil=>rfl
 |cons q d c=>rw [fnd,c (λx a=>h x (List.mem_cons_of_mem _ a)),aA (h q List.mem_cons_self)];rfl
theorem lX (a c:List (Nat×List Int)) (b:Nat):fnd (a ++ c) b=(fnd c b).or (fnd a b):=by
 induction a with
 |nil=>simp [fnd]
 |cons q d e=>
  show (fnd (d ++ c) b).or _=(fnd c b).or ((fnd d b).or _);rw [e,Option.or_assoc]
theorem EZ {b:Nat} (h:fnd ps b=some c):(b,c)∈ps:=by
 induction ps with
 |nil=>cases h
 |cons q f d=>
  rw [fnd] at h;cases a:fnd f b with
  |some x=>
   rw [a] at h;cases h;exact List.mem_cons_of_mem _ (d a)
  |none=>
   rw [a] at h;by_cases e:q.1=b
   .rw [aE e] at h;cases h;rw [<-e];exact List.mem_cons_self
   .rw [aA e] at h;cases h
theorem TS {b:Nat} (d:i<ps.length) (c:ps[i].1=b) (g:∀j (f:j<ps.length),i<j->ps[j].1≠b):fnd ps b=some ps[i].2:=by
 have e:ps=ps.take i ++ ps[i] :: ps.drop (i+1):=by rw [<-List.drop_eq_getElem_cons d,List.take_append_drop]
 have k:fnd (ps.drop (i+1)) b=none:=uB (λq l=>by
  obtain⟨j,f,rfl⟩:=List.mem_iff_getElem.1 l;rw [List.getElem_drop];exact g _ _ (by omega))
 have a:=lX (ps.take i) (ps[i] :: ps.drop (i+1)) b;rw [<-e,fnd,k,aE c] at a;rw [a];simp
theorem Cy (b:Nat):∀{ms:CM},CM.Ok ms->CM.get (CM.bX ms ps) b=(fnd ps b).or (CM.get ms b):=by
 induction ps with
 |nil=>intro ms _;rfl
 |cons q d c=>
  intro ms a;show CM.get (CM.bX (CM.put ms q.1 q.2) d) b=_;rw [c (CM.uZ a _ _),CM.kr _ _ _ _ a,fnd,Option.or_assoc];congr 1;by_cases e:b=q.1
  .rw [aE e,aE e.symm];rfl
  .rw [aA e,aA (λh=>e h.symm)];rfl
theorem pR (ms a c:CM):CM.bX ms (a ++ c)=CM.bX (CM.bX ms a) c:=List.foldl_append
theorem rD:CM.Ok []:=List.Pairwise.nil
theorem gL (ps:List (Nat×List Int)) (b:Nat):CM.get (CM.bX [] ps) b=fnd ps b:=by rw [Cy b rD];simp [CM.get]
def below (ms:CM) (b:Nat):CM:=ms.filter (λq=>decide (q.1<b))
theorem oA {ms:CM} {b:Nat} (h:∀q∈ms,¬q.1<b):below ms b= []:=by
 unfold below;rw [List.filter_eq_nil_iff];intro q a;simpa using h q a
theorem Cz {ms:CM} {b:Nat} (h:∀q∈ms,q.1<b):below ms b=ms:=by
 unfold below;rw [List.filter_eq_self];intro q a;simpa using h q a
theorem sw (q:Nat×List Int) (a:CM) (b:Nat):below (q :: a) b=if q.1<b then q :: below a b else below a b:=by
 unfold below;rw [List.filter_cons];simp
theorem zk {ms:CM} (g:CM.Ok ms) (b:Nat):below ms (b+1)=below ms b ++ (match CM.get ms b with|none=> []|some c=> [(b,c)]):=by
 induction ms with
 |nil=>rfl
 |cons q f e=>
  have a:=List.pairwise_cons.1 g;rw [sw,sw,CM.lO];rcases Nat.lt_trichotomy q.1 b with h|h|h
  .rw [aE (by omega),aE h,aA (by omega),e a.2];rfl
  .rw [aE (by omega),aA (by omega),aE h,oA (ms:=f) (b:=b+1) (λx d=>by have:=a.1 x d;omega),oA (ms:=f) (b:=b) (λx d=>by have:=a.1 x d;omega)];obtain⟨i,j⟩:=q;subst h;rfl
  .rw [aA (by omega),aA (by omega),aA (by omega),e a.2]
theorem sx {ms:CM} (a:CM.Ok ms) {b:Nat} (h:CM.get ms b=none):below ms (b+1)=below ms b:=by rw [zk a,h,List.append_nil]
theorem sy {ms:CM} (a:CM.Ok ms) {b:Nat} (h:CM.get ms b=some c):below ms (b+1)=below ms b ++ [(b,c)]:=by rw [zk a,h]
theorem sA (ms:CM):below ms 0= []:=oA (λ_ _=>by omega)
theorem lH (a:Option Addr) (n c:Nat) (l:List Int) (w:World) (t:n<=140737488355328) (q:Src w a n l):
  Calls prog 97 #[.slice a n c] w λe w'=>∃g,e= .returned (.slice (some (aD g 0)) n n)/\w.heap.size<=g/\ay w' 5 g n (bs l)/\bW w w':=by
 obtain⟨r,j,gv,dr,ec⟩:=info_parts fW;have H:=yh q;go_in;go_wp2_with (at_make;refine wpList_make_full _ rfl _ _ 36 rfl w.heap.size 5 r (.int .u8 0) 1 underlying36 j gv dr _ _ _ _ n rfl rfl ?c1 ?c2 ?c3 ?c4 ?c5 ?_);case c1=>rfl
 case c2=>rfl
 case c3=>rw [ec];omega
 case c4=>unfold maxLen;omega
 case c5=>exact bP _
 intro w1 az aO;have p:=lJ az;have b:=(bi _ w).grown aO (bP _) (by intro k d;cases d);have i:=p.full (by simp [bs]);have ed:=H.o.later b;have m:=H.o.1;obtain⟨s,bC,f,d,_⟩:=xX w1 3 (some (aD w.heap.size 0)) w.heap.size 0 n n a n c (bs (List.replicate n 0)) l i ed (λ_=>rfl) (by simp [bs]);have aW:=b.trans (d.below (λk h=>by omega) b.size);have fb:ay s 5 w.heap.size n (bs l):=by
  have e:splice (bs (List.replicate n 0)) 0 (bs (l.take n))=bs l:=by
   rw [nh (by omega)];simp [splice,bs];omega
  rw [e] at f;have:=ay.xp f (by simp [bs,maxLen];omega);simpa [bs,m] using this
 go_wp2;go_ret;exact⟨w.heap.size,rfl,bP _,fb,aW⟩
structure cu (w:World) (F:Nat->Prop) (r s:Nat) (S:DS) (gl cl:Nat) (ls:List Value) (pv:Value) (xs:List Value):Prop where
 fr:F r
 fl:F gl
 lt:∀k,F k->k<w.heap.size
 dj:w.heap[r]? =some (.cells (bG (.slice (some ⟨gl,0,none⟩) s cl) pv S.fuse S.life S.reads S.writes S.flushes S.refused) 67 (0,0))
 last:ay w 36 gl cl ls
 J6:ls.length=s
 zl:∀k,k<s->∃g c,ls[k]? =some (.slice (some (aD g 0)) 512 c)/\F g/\ay w 5 g c (bs (bI S.im k))
 db:w.ownsRow 0 120 2 pv S.puts.length xs
 Pe:∀g,pv.ownBlock=some g->F g
 puts:∀i (hi:i<S.puts.length),∃g c,xs[2*i]? =some (iV ((S.puts[i].1:Nat):Int))/\xs[2*i+1]? =some (.slice (some (aD g 0)) 512 c)/\F g/\ay w 5 g c (bs S.puts[i].2)
 ok:S.Ok s
def aB (w:World) (F:Nat->Prop) (r s:Nat) (S:DS):Prop:=∃gl cl ls pv xs,cu w F r s S gl cl ls pv xs
theorem aC (h:w.ownsRow base e size v n xs) (d:∀g,v.ownBlock=some g->w'.heap[g]? =w.heap[g]?):w'.ownsRow base e size v n xs:=by
 obtain⟨b,h|⟨g,a,cur,rfl,f,sd,c⟩⟩:=h
 .exact⟨b, .inl h⟩
 .exact⟨b, .inr ⟨g,a,cur,rfl,f,(d g rfl).trans sd,c⟩⟩
theorem cu.agree {r:Nat} {l:Value} (h:cu w F r s S gl cl ls l xs) (o:w.heap.size<=w'.heap.size) (a:∀k,F k->w'.heap[k]? =w.heap[k]?):cu w' F r s S gl cl ls l xs:=by
 refine⟨h.fr,h.fl,λk j=>iP (h.lt k j) o,(a r h.fr).trans h.dj,h.last.agree (a gl h.fl),h.J6,λk j=>?_,aC h.db (λg e=>a g (h.Pe g e)),h.Pe,λi n=>?_,h.ok⟩
 .obtain⟨g,c,f,b,d⟩:=h.zl k j;exact⟨g,c,f,b,d.agree (a g b)⟩
 .obtain⟨g,c,f,b,d,m⟩:=h.puts i n;exact⟨g,c,f,b,d,m.agree (a g d)⟩
theorem aB.lt {r:Nat} (h:aB w F r s S):∀k,F k->k<w.heap.size:=by obtain⟨b,a,c,d,xs,h⟩:=h;exact h.lt
theorem aB.ok {r:Nat} (h:aB w F r s S):S.Ok s:=by obtain⟨b,a,c,d,xs,h⟩:=h;exact h.ok
theorem aB.au {r:Nat} (h:aB w F r s S) (k:aa G w w') (hd:∀k,F k->¬G k):aB w' F r s S:=by
 obtain⟨c,b,d,e,xs,h⟩:=h;exact⟨c,b,d,e,xs,h.agree k.size (λj a=>k.block j (h.lt j a) (hd j a))⟩
theorem cu.mono {r:Nat} {j:Value} (h:cu w F r s S gl cl ls j xs) (a:∀k,F k->G k) (o:∀k,G k->k<w.heap.size):cu w G r s S gl cl ls j xs:=
   ⟨a _ h.fr,a _ h.fl,o,h.dj,h.last,h.J6,λk n=>by obtain⟨g,c,b,d,f⟩:=h.zl k n;exact⟨g,c,b,a _ d,f⟩,h.db,λg e=>a _ (h.Pe g e),λi m=>by
  obtain⟨g,c,b,d,f,l⟩:=h.puts i m;exact⟨g,c,b,d,a _ f,l⟩,h.ok⟩
theorem dR {i:Nat×Nat} (h:w.ownsRow base e size v n xs) (b:v.ownBlock=some g) (k:w.heap[q]? =some (.cells cur e' i)) (j:e'≠e):g≠q:=by
 obtain⟨_,⟨rfl,_⟩|⟨l,d,c,rfl,_,a,_⟩⟩:=h
 .simp [Value.ownBlock] at b
 .simp [Value.ownBlock] at b;intro f;rw [b,f,k] at a;simp at a;exact j a.2.1
theorem cu.ni {r:Nat} {S':DS} {l:Value} (h:cu w F r s S gl cl ls l xs) (a:aa (λk=>k=r) w w')
    (p:w'.heap[r]? =some (.cells (bG (.slice (some ⟨gl,0,none⟩) s cl) l S'.fuse S'.life S'.reads S'.writes S'.flushes S'.refused) 67 (0,0))) (m:S'.im=S.im) (j:S'.puts=S.puts) (o: -1<=S'.fuse/\S'.fuse<=9223372036854775807):
  cu w' F r s S' gl cl ls l xs:=by
 refine⟨h.fr,h.fl,λk q=>iP (h.lt k q) a.size,p,h.last.other a h.dj (by decide),h.J6,λk xq=>?_,?_,h.Pe,?_,⟨?_,h.ok.lo,h.ok.hi,?_,o⟩⟩
 .obtain⟨g,c,b,d,f⟩:=h.zl k xq;rw [m];exact⟨g,c,b,d,f.other a h.dj (by decide)⟩
 .rw [j];exact aC h.db (λg e=>a.block g (h.lt g (h.Pe g e)) (dR h.db e h.dj (by decide)))
 .rw [j];intro i t;obtain⟨g,c,b,d,f,n⟩:=h.puts i t;exact⟨g,c,b,d,f,n.other a h.dj (by decide)⟩
 .rw [m];exact h.ok.len
 .rw [j];exact h.ok.puts
theorem cu.set {r:Nat} {a:Value} (h:cu w F r s S gl cl ls a xs) (i:Nat) (v:Value):
    (w.setCell ⟨r,i,none⟩ v).heap[r]? =some (.cells ((bG (.slice (some ⟨gl,0,none⟩) s cl) a S.fuse S.life S.reads S.writes S.flushes S.refused).setIfInBounds i v) 67 (0,0))/\aa (λk=>k=r) w (w.setCell ⟨r,i,none⟩ v):=
   ⟨heap_setCell_same _ _ _ _ _ _ h.dj,aa.setCell (F:=λk=>k=r) w (p:=(aD r i)) rfl v⟩
theorem cu.refused {r:Nat} {a:Value} (h:cu w F r s S gl cl ls a xs):
  cu (w.setCell ⟨r,7,none⟩ (.int .i64 (wrap64 (S.refused+1)))) F r s S.refuse gl cl ls a xs:=
 h.ni (h.set 7 _).2 ((h.set 7 _).1.trans (by simp [bG,DS.refuse])) rfl rfl h.ok.fuse
theorem mv {r:Nat} (h:aB w F r s S):
  Calls prog 11 #[pQ r] w λe w'=>e= .returned (iV s)/\w'=w:=by
 obtain⟨c,b,d,f,xs,h⟩:=h;have a:=aL h.dj;go_in;go_wp2;go_ret;exact⟨rfl,rfl⟩
theorem j3 {r:Nat} (h:aB w F r s S):
  Calls prog 36 #[pQ r] w λe w'=>e= .returned (.bool (S.fuse == 0))/\w'=w:=by
 obtain⟨c,b,d,f,xs,h⟩:=h;have a:=bH h.dj;go_in;go_wp2;go_ret;exact⟨rfl,rfl⟩
theorem nE {r:Nat} (h:aB w F r s S):
  Calls prog 23 #[pQ r] w λe w'=>e= .returned (iV S.life)/\w'=w:=by
 obtain⟨c,b,d,f,xs,h⟩:=h;have a:=fI h.dj;go_in;go_wp2;go_ret;exact⟨rfl,rfl⟩
theorem zm {r:Nat} (h:aB w F r s S):
  Calls prog 62 #[pQ r] w λe w'=>e= .returned (iV (wrap64 (S.life+1)))/\aB w' F r s S.take/\aa F w w':=by
 obtain⟨b,a,d,f,xs,h⟩:=h;have g:=fI h.dj;have i:=ae h.dj 3;have c:aB (w.setCell ⟨r,3,none⟩ (.int .i64 (wrap64 (S.life+1)))) F r s S.take/\aa F w (w.setCell ⟨r,3,none⟩ (.int .i64 (wrap64 (S.life+1)))):=
    ⟨⟨b,a,d,f,xs,h.ni (h.set 3 _).2 ((h.set 3 _).1.trans (by simp [bG,DS.take])) rfl rfl h.ok.fuse⟩,aa.setCell w h.fr _⟩
 go_in;go_wp2;go_ret;exact⟨rfl,(yh c).out⟩
theorem Bw (w:World) (b o:Nat) (v u:Value):(w.setCell ⟨b,o,none⟩ v).setCell ⟨b,o,none⟩ u=w.setCell (aD b o) u:=by
 unfold World.setCell;congr 1;apply Array.ext_getElem?;intro i;simp only [Array.getElem?_modify];by_cases e:b=i
 .subst e;simp only [if_true];cases w.heap[b]? with
  |none=>rfl
  |some a=>cases a <;> simp
 .simp [e]
theorem Q7 {r:Nat} (h:aB w F r s S) (a:Int) (p:a<=9223372036854775807):
  Calls prog 27 #[pQ r,iV a] w λe w'=>e= .returned (.tuple #[])/\aB w' F r s (S.lay a)/\aa F w w':=by
 obtain⟨g,f,i,j,xs,h⟩:=h;have m:=bH h.dj;have n:=ae h.dj 2;by_cases b:S.fuse=0
 .have k:(S.fuse == 0)=true:=by simp [b]
  have c:aB w F r s (S.lay a):=by simp only [DS.lay,b,if_true];exact⟨g,f,i,j,xs,h⟩
  go_in;go_wp2;exact bodyPost_ret (results_none rfl _ _ _) rfl ⟨rfl,(yh c).out,aa.refl _ _⟩
 .have k:(S.fuse == 0)=false:=by simp [b]
  have c:∀v,v=max a (-1)->aB (w.setCell ⟨r,2,none⟩ (.int .i64 v)) F r s (S.lay a)/\aa F w (w.setCell ⟨r,2,none⟩ (.int .i64 v)):=λv l=>by
   subst l;simp only [DS.lay,b,if_false];exact⟨⟨g,f,i,j,xs,h.ni (h.set 2 _).2 ((h.set 2 _).1.trans (by simp [bG])) rfl rfl (by simp only;omega)⟩,aa.setCell w h.fr _⟩
  have Mb:=λv u=>Bw w r 2 v u;have d:=yh c;by_cases aid:a<0
  .go_in;go_wp2
   go_end0
   exact⟨rfl,d.o (-1) (by omega)⟩
  .go_in;go_wp2
   go_end0
   exact⟨rfl,d.o a (by omega)⟩
theorem zn (r:Nat) (a:Int) (w:World) (b:w.cell? (aD r 2)=some (iV a)) (c:w.frozen? (aD r 2)=false) (d: -1<=a):
  Calls prog 115 #[pQ r] w λe w'=>e= .returned (.tuple #[])/\w'=if 0<a then w.setCell ⟨r,2,none⟩ (.int .i64 (wrap64 (a-1))) else w:=by
 by_cases h:0<a
 .go_in;go_wp2
  go_end0
  exact⟨rfl,rfl⟩
 .go_in;go_wp2
  go_end0
  exact⟨rfl,rfl⟩
theorem cu.yo {r:Nat} {b:Value} (h:cu w F r s S gl cl ls b xs):
  cu (if 0<S.fuse then w.setCell ⟨r,2,none⟩ (.int .i64 (wrap64 (S.fuse-1))) else w) F r s S.fY gl cl ls b xs/\aa F w (if 0<S.fuse then w.setCell ⟨r,2,none⟩ (.int .i64 (wrap64 (S.fuse-1))) else w):=by
 have c:=h.ok.fuse;by_cases a:0<S.fuse
 .rw [aE a];have e:wrap64 (S.fuse-1)=S.fuse-1:=by unfold wrap64;omega
  refine⟨h.ni (h.set 2 _).2 ((h.set 2 _).1.trans ?_) rfl rfl ?_,aa.setCell w h.fr _⟩
  .rw [e];simp [bG,DS.fY,a]
  .simp only [DS.fY,aE a];omega
 .rw [aA a];have e:S.fY=S:=by simp [DS.fY,a]
  rw [e];exact⟨h,aa.refl _ _⟩
theorem J7 {r:Nat} (h:aB w F r s S):
  Calls prog 38 #[pQ r] w λe w'=>e= .returned (.agg (dL S.reads S.writes S.flushes S.refused S.puts.length))/\bW w w':=by
 obtain⟨p,o,q,f,xs,h⟩:=h;have rE:=h.lt r h.fr;have wW:∃a c,f= .slice a S.puts.length c:=by
  obtain⟨_,⟨e,d⟩|⟨g,b,cur,e,_⟩⟩:=h.db
  .exact⟨none,0,by rw [e,d]⟩
  .exact⟨_,_,e⟩
 obtain⟨a,c,rfl⟩:=wW;obtain⟨i,j,k,l,m,n⟩:=kQ (bD h.dj) (gz h.dj) (rU h.dj) (wG h.dj) (ri h.dj) (Dg h.dj);go_in;go_wp2;refine bodyPost_ret (v:= .agg (dL S.reads S.writes S.flushes S.refused S.puts.length)) (by simp [results,results38,go_sem,dL]) rfl ⟨rfl,?_⟩;exact((bi _ w).alloc (bP _) _).alloc (by simp) _
theorem fh (a b:List (Nat×List Int)) (k:Nat):ar (a ++ b) k=ar a k ++ ar b k:=by simp [ar]
theorem kH {puts:List (Nat×List Int)} (h:∀q∈puts,q.1≠k):ar puts k= []:=by
 unfold ar;rw [List.map_eq_nil_iff,List.filter_eq_nil_iff];intro q a;have:=h q a;simpa using this
theorem Q9 (f:i<S.puts.length) (e:S.puts[i].1=k) (g:∀j (a:j<S.puts.length),i<j->S.puts[j].1≠k):S.now k=S.puts[i].2:=by
 have b:S.puts=S.puts.take i ++ (S.puts[i] :: S.puts.drop (i+1)):=by
  rw [<-List.drop_eq_getElem_cons f,List.take_append_drop]
 have c:ar (S.puts.drop (i+1)) k= []:=kH (λq l=>by
  obtain⟨j,a,rfl⟩:=List.mem_iff_getElem.1 l;rw [List.getElem_drop];exact g _ (by simp at a;omega) (by omega))
 have d:ar S.puts k=ar (S.puts.take i) k ++ [S.puts[i].2]:=by
  conv=>lhs;rw [b]
  rw [fh,show S.puts[i] :: S.puts.drop (i+1)= [S.puts[i]] ++ S.puts.drop (i+1) from rfl,fh,c];simp [ar,e]
 unfold DS.now DS.gB;rw [d];simp [List.getD]
theorem Vs (h:∀j (a:j<S.puts.length),S.puts[j].1≠k):S.now k=bI S.im k:=by
 apply tj;apply kH;intro q b;obtain⟨j,a,rfl⟩:=List.mem_iff_getElem.1 b;exact h j a
theorem cu.form {r:Nat} {m:Value} (h:cu w F r s S gl cl ls m xs):
  ∃a c,m= .slice a S.puts.length c/\(0<S.puts.length->∃b,a=some (aD b 0)/\∀i (f:i<S.puts.length),∃g d,w.cell? ⟨b,i*2,none⟩=some (iV ((S.puts[i].1:Nat):Int))/\w.cell? ⟨b,i*2+1,none⟩=some (.slice (some (aD g 0)) 512 d)/\F g/\ay w 5 g d (bs S.puts[i].2)):=by
 have j:=h.db;obtain⟨_,⟨e,u⟩|⟨b,n,cur,e,_⟩⟩:=h.db
 .exact⟨none,0,by rw [e,u],λh0=>by omega⟩
 .refine⟨_,_,e,λ_=>⟨b,rfl,λi f=>?_⟩⟩;obtain⟨g,d,o,p,q,t⟩:=h.puts i f;have k:=j.cells (g:=b) (by rw [e];rfl) _ _ o;have l:=j.cells (g:=b) (by rw [e];rfl) _ _ p;rw [aK,Nat.zero_add] at k l;exact⟨g,d,by rw [Nat.mul_comm];exact k,by rw [Nat.mul_comm];exact l,q,t⟩
theorem jF {r:Nat} (h:aB w F r s S) (k:Nat) (y:k<s) (aT:S.puts.length<=5000000000000):
  Calls prog 40 #[pQ r,iV (k:Int)] w λe w'=>∃g c,e= .returned (.slice (some (aD g 0)) 512 c)/\F g/\ay w 5 g c (bs (S.now k))/\w'=w:=by
 obtain⟨E,D,H,J,xs,h⟩:=h;obtain⟨a,c,rfl,sB⟩:=h.form;have A:=aL h.dj;have C:=bD h.dj;obtain⟨v,cs,wQ,Ue,pi⟩:=h.zl k y;have u:=h.last.cell wQ;have l:=sB;have d:=pi;have eF:(k:Int)<(s:Int):=by omega
 clear h sB pi wQ;go_in;go_wp2;go_loopw [5] (λi wr=>∃j:Nat,j<=S.puts.length/\i=iV ((j:Int)-1)/\wr=w/\∀i (b:i<S.puts.length),j<=i->S.puts[i].1≠k) (λi _=>(intOf i+1).toNat);case atStart=>exact⟨S.puts.length,bP _,rfl,rfl,λi b h=>by omega⟩
 case round=>
  obtain⟨j,n,rfl,rfl,iZ⟩:=hrel;have nS:=iZ;clear iZ;cases j with
  |zero=>
   rw [<-(Vs (S:=S) (k:=k) (λj n=>nS j n (by omega)))] at d;go_wp2;go_ret;exact⟨v,cs,rfl,Ue,d,rfl⟩
  |succ j=>
   obtain⟨G,rfl,p⟩:=l (by omega);obtain⟨g,t,z,I,x,q⟩:=p j (by omega);have m:=q;clear p q;by_cases f:S.puts[j].1=k
   .have o:=Q9 (S:=S) (by omega) f (λi b h=>nS i b (by omega));rw [f] at z;rw [<-o] at m;clear o;go_wp2;go_ret;exact⟨g,t,rfl,x,m,rfl⟩
   .have dG:(((S.puts[j].1:Nat):Int) == (k:Int))=false:=(by rw [Bool.eq_false_iff,ne_eq,beq_iff_eq];omega);have J8:∀i (b:i<S.puts.length),j<=i->S.puts[i].1≠k:=λi b h=>by
     by_cases e:i=j
     .subst e;exact f
     .exact nS i b (by omega)
    have Zg:=J8;clear J8 nS f m;go_wp2;go_roundw;case rel=>exact⟨j,by omega,by go_num,trivial,Zg⟩
    case measure=>simp [intOf]
theorem Mc:(prog.info? 120).map (λi=>(i.zero,i.size,i.bytes))=some (some (.agg #[iV 0, .slice none 0 0]),2,32):=by kernel_rfl
theorem cu.wrote {w1 m:World} {r:Nat} {A:Value} (h:cu w F r s S gl cl ls A xs) (N:k<s) (O:l.length=512) {t f bZ:Nat} {o:Obj}
    (aq:bW w w1) (K:w.heap.size<=g) (H:ay w1 5 g t (bs l))
    (az:m.ownsRow 0 120 2 (.slice (some (aD f 0)) (S.puts.length+1) bZ) (S.puts.length+1) (xs ++ [iV (k:Int), .slice (some (aD g 0)) 512 t]))
    (aO:(w1.alloc o).grownBy m A.ownBlock) (ic:A.ownBlock=some f\/f=w1.heap.size+1):
  m.heap[r]? =w.heap[r]?/\cu (m.setCell ⟨r,1,none⟩ (.slice (some ⟨f,0,none⟩) (S.puts.length+1) bZ)) (more F w (m.setCell ⟨r,1,none⟩ (.slice (some ⟨f,0,none⟩) (S.puts.length+1) bZ))) r s (S.put k l) gl cl ls (.slice (some (aD f 0)) (S.puts.length+1) bZ) (xs ++ [iV (k:Int), .slice (some (aD g 0)) 512 t])/\
   aa F w (m.setCell ⟨r,1,none⟩ (.slice (some ⟨f,0,none⟩) (S.puts.length+1) bZ)):=by
 have aW:=aq.alloc aq.size o;have rY:=aq.size;have YA:(w1.alloc o).heap.size=w1.heap.size+1:=by simp
 have ju:=aO.size;have rE:=h.lt r h.fr;have n:=λb a y=>(aO.block b (by omega) y).trans (aW.block b a);have v:some r≠A.ownBlock:=λe=>dR h.db e.symm h.dj (by decide) rfl;have fb:=n r rE v;have Xw:∀(b:Nat) (cur:Array Value) (e:TypeId) (G:Nat×Nat),w.heap[b]? =some (Obj.cells cur e G)->e≠120->m.heap[b]? =w.heap[b]? :=λb cur e G a J=>
  n b (kN.1 a).1 (λu=>dR h.db u.symm a J rfl)
 have acQ:(m.setCell ⟨r,1,none⟩ (.slice (some ⟨f,0,none⟩) (S.puts.length+1) bZ)).heap.size=m.heap.size:=by simp [World.setCell]
 have d:∀b,b≠r->(m.setCell ⟨r,1,none⟩ (.slice (some ⟨f,0,none⟩) (S.puts.length+1) bZ)).heap[b]? =m.heap[b]? :=λb a=>Below.heap_setCell _ _ _ _ a;have Md:∀b c E,ay w 5 b c E->ay (m.setCell ⟨r,1,none⟩ (.slice (some ⟨f,0,none⟩) (S.puts.length+1) bZ)) 5 b c E:=λb c E a=>by
  have dG:=a.ne h.dj (by decide);have eC:=a;obtain⟨cur,ie,_⟩:=eC;exact a.agree ((d b dG).trans (Xw b cur _ _ ie (by decide)))
 have UF:=H.lt;have tO:g≠r:=by omega
 have Rc:f<m.heap.size:=by
  obtain⟨_,⟨e,_⟩|⟨x,_,cur,e,_,a,_⟩⟩:=az
  .cases e
  .cases e;exact(kN.1 a).1
 have aoT:f≠r:=λe=>by
  rcases ic with p|p
  .rw [e] at p;exact v p.symm
  .omega
 refine⟨fb,⟨.inl h.fr, .inl h.fl,λb a=>?_,?_,?_,h.J6,λj M=>?_,?_,λb a=>?_,λi L=>?_,⟨h.ok.len,h.ok.lo,h.ok.hi,λq z=>?_,h.ok.fuse⟩⟩,?_⟩
 .rw [acQ];rcases a with a|a
  .have:=h.lt b a;omega
  .rw [acQ] at a;exact a.2
 .rw [heap_setCell_same _ _ _ _ _ _ (fb.trans h.dj)];simp [bG,DS.put]
 .have dG:=h.last.ne h.dj (by decide);have eC:=h.last;obtain⟨cur,ie,_⟩:=eC;exact h.last.agree ((d gl dG).trans (Xw gl cur _ _ ie (by decide)))
 .obtain⟨x,c',u,C,D⟩:=h.zl j M;exact⟨x,c',u, .inl C,Md _ _ _ D⟩
 .have:(S.put k l).puts.length=S.puts.length+1:=by simp [DS.put]
  rw [this];exact aC az (λb a=>d b (λe=>by simp [Value.ownBlock] at a;omega))
 .simp [Value.ownBlock] at a;subst a;rcases ic with p|p
  .exact .inl (h.Pe f p)
  .exact .inr ⟨by omega,by omega⟩
 .have Fb:=h.db.1;by_cases nj:i<S.puts.length
  .obtain⟨x,c',u,C,D,I⟩:=h.puts i nj;refine⟨x,c',?_,?_, .inl D,?_⟩
   .rw [List.getElem?_append_left (by omega),u];simp [DS.put,List.getElem_append_left nj]
   .rw [List.getElem?_append_left (by omega),C]
   .simp only [DS.put,List.getElem_append_left nj];exact Md _ _ _ I
  .have Dm:i=S.puts.length:=(by simp [DS.put] at L;omega);subst Dm;refine⟨g,t,?_,?_, .inr ⟨K,by omega⟩,?_⟩
   .rw [List.getElem?_append_right (by omega),show 2*S.puts.length-xs.length=0 by omega];simp [DS.put]
   .rw [List.getElem?_append_right (by omega),show 2*S.puts.length+1-xs.length=1 by omega];simp
   .have:ay (m.setCell ⟨r,1,none⟩ (.slice (some ⟨f,0,none⟩) (S.puts.length+1) bZ)) 5 g t (bs l):=by
     refine H.agree ((d g tO).trans ((aO.block g (by omega) (λe=>?_)).trans (Below.heap_alloc _ _ _ UF)));have:=h.lt _ (h.Pe g e.symm);omega
    simpa [DS.put] using this
 .simp only [DS.put,List.mem_append,List.mem_singleton] at z;rcases z with z|rfl
  .exact h.ok.puts q z
  .exact⟨N,O⟩
 .refine⟨aO.os.trans aW.os,aO.tape.trans aW.tape,aO.output.trans aW.output,by omega,λb a y=>?_⟩;exact(d b (λe=>y (e▸h.fr))).trans (n b a (λe=>y (h.Pe b e.symm)))
def TwR (w:World) (l:List Int) (v:Value) (w':World):Prop:=∃g,v= .slice (some (aD g 0)) 512 512/\w.heap.size<=g/\ay w' 5 g 512 (bs l)/\bW w w'
theorem u9 {P:Program} {b:Array Oper} {o:Oper} {a:Act} {K:Act->World->Prop} {Q:Exit->Act->World->Prop} {E:Prop} (FQ:o.guard=none) (f:FuncId) (args:Array Value)
    (IQ:(execOp a.eval o).run P w= .ok (.enter f args) w) (R:Value->World->Prop) (c:Calls P f args w λe w'=>∃v,e= .returned v/\R v w') (h:∀v w',R v w'->K (a.put o.dst v) w'):
  if Region.wanted o (yielded b a.tmps)=true then Oper.wp P o a w K Q else E:=by
 have g:Region.wanted o (yielded b a.tmps)=true:=by simp [Region.wanted,FQ]
 rw [aE g];unfold Oper.wp;rw [IQ,Oper.upon_enter];refine c.mono ?_;rintro e w' ⟨v,rfl,d⟩;exact h v w' d
theorem Gm {r:Nat} (h:aB w F r s S) (b:Int) (a:Option Addr) (n c:Nat) (i:S.fuse=0):
  Calls prog 63 #[pQ r,iV b, .slice a n c] w λe w'=>e= .returned (iV 3)/\w'=w:=by
 obtain⟨g,f,j,k,xs,h⟩:=h;have d:=bH h.dj;go_in;go_wp2;go_ret;exact⟨rfl,rfl⟩
theorem DY {r:Nat} (h:aB w F r s S) (a:Int) (k:Option Addr) (n c:Nat) (m:S.fuse≠0) (d:a<0\/(s:Int)<=a):
  Calls prog 63 #[pQ r,iV a, .slice k n c] w λe w'=>e= .returned (iV 11)/\aB w' F r s S.refuse/\aa F w w':=by
 obtain⟨g,f,i,j,xs,h⟩:=h;have q:=aL h.dj;have t:=bH h.dj;have u:=ri h.dj;have v:=ae h.dj 7;have x:(S.fuse == 0)=false:=by simp [m]
 have b:=yh (aF h.refused (aa.setCell (F:=F) w (p:=(aD r 7)) h.fr (iV (wrap64 (S.refused+1)))));rcases d with d|d
 .go_in;go_wp2;go_ret;exact⟨rfl,⟨g,f,i,j,xs,b.o.1⟩,b.o.2⟩
 .have l:¬a<0:=by omega
  go_in;go_wp2;go_ret;exact⟨rfl,⟨g,f,i,j,xs,b.o.1⟩,b.o.2⟩
theorem By {r:Nat} (h:aB w F r s S) (k:Nat) (b:Option Addr) (n c:Nat) (g:S.fuse≠0) (v:k<s) (x:n≠512):
  Calls prog 63 #[pQ r,iV (k:Int), .slice b n c] w λe w'=>e= .returned (iV 2)/\aB w' F r s S.refuse/\aa F w w':=by
 obtain⟨f,d,i,j,xs,h⟩:=h;have l:=aL h.dj;have m:=bH h.dj;have q:=ri h.dj;have t:=ae h.dj 7;have u:(S.fuse == 0)=false:=by simp [g]
 have a:=yh (aF h.refused (aa.setCell (F:=F) w (p:=(aD r 7)) h.fr (iV (wrap64 (S.refused+1)))));have dG:((n:Int) != 512)=true:=by rw [fT];omega
 have wH:¬(k:Int)<0:=by omega
 have eH:¬(s:Int)<=(k:Int):=by omega
 go_in;go_wp2;go_ret;exact⟨rfl,⟨f,d,i,j,xs,a.o.1⟩,a.o.2⟩
theorem cu.Jg {r:Nat} {a:Value} (h:cu w F r s S gl cl ls a xs):
  cu (w.setCell ⟨r,5,none⟩ (.int .i64 (wrap64 (S.writes+1)))) F r s S.wrote gl cl ls a xs:=
 h.ni (h.set 5 _).2 ((h.set 5 _).1.trans (by simp [bG,DS.wrote])) rfl rfl h.ok.fuse
theorem J9 {a:World} {r:Nat} {g:Value} (f:F r) (h:cu a (more F w a) r s S gl cl ls g xs) (l:aa F w a):
  a.cell? (aD r 5)=some (iV S.writes)/\a.frozen? (aD r 5)=false/\
  Calls prog 115 #[pQ r] (a.setCell ⟨r,5,none⟩ (.int .i64 (wrap64 (S.writes+1)))) λe w'=>e= .returned (.tuple #[])/\aB w' (more F w w') r s S.wrote.fY/\aa F w w':=by
 have b:=h.Jg;have dV:aa F w (a.setCell ⟨r,5,none⟩ (.int .i64 (wrap64 (S.writes+1)))):=l.trans (aa.setCell (F:=λk=>k=r) a (p:=(aD r 5)) rfl _) (λj d=> .inl (d▸f));refine⟨rU h.dj,ae h.dj 5,(zn r S.fuse _ (bH b.dj) (ae b.dj 2) b.ok.fuse.1).mono ?_⟩;rintro e w' ⟨rfl,rfl⟩;obtain⟨i,_⟩:=b.yo;have dX:aa (λk=>k=r) (a.setCell ⟨r,5,none⟩ (.int .i64 (wrap64 (S.writes+1)))) (if 0<S.fuse then (a.setCell ⟨r,5,none⟩ (.int .i64 (wrap64 (S.writes+1)))).setCell ⟨r,2,none⟩ (.int .i64 (wrap64 (S.fuse-1))) else (a.setCell ⟨r,5,none⟩ (.int .i64 (wrap64 (S.writes+1))))):=by
  split
  .exact aa.setCell (F:=λk=>k=r) _ (p:=(aD r 2)) rfl _
  .exact aa.refl _ _
 have Xx:(if 0<S.fuse then (a.setCell ⟨r,5,none⟩ (.int .i64 (wrap64 (S.writes+1)))).setCell ⟨r,2,none⟩ (.int .i64 (wrap64 (S.fuse-1))) else (a.setCell ⟨r,5,none⟩ (.int .i64 (wrap64 (S.writes+1))))).heap.size=a.heap.size:=by split <;> simp [World.setCell]
 refine⟨rfl,⟨gl,cl,ls,g,xs,cu.mono i (B2 (by rw [Xx];exact bP _)) (λk xq=>?_)⟩,dV.trans dX (λj d=> .inl (d▸f))⟩;rw [Xx];rcases xq with c|c
 .exact h.lt k (.inl c)
 .rw [Xx] at c;exact c.2
set_option maxRecDepth 100000 in
theorem NC {r:Nat} (hd:aB w F r s S) (k:Nat) (p:k<s) (m:S.fuse≠0) (aT:S.puts.length+1<=4000000000000)
    (x:Addr) (c:Nat) (l:List Int) (fJ:Src w (some x) 512 l):
  Calls prog 63 #[pQ r,iV (k:Int), .slice (some x) 512 c] w λe w'=>e= .returned (iV 0)/\aB w' (more F w w') r s ((S.put k l).wrote.fY)/\aa F w w':=by
 obtain⟨K,E,P,Q,xs,h⟩:=hd;obtain⟨u,rt,gv,dr,ec⟩:=info_parts Mc;obtain⟨a,ca,rfl,_⟩:=h.form;have z:=aL h.dj;have A:=bD h.dj;have C:=bH h.dj;have L:(S.fuse == 0)=false:=by simp [m]
 have wH:¬(k:Int)<0:=by omega
 have eH:¬(s:Int)<=(k:Int):=by omega
 have rE:=h.lt r h.fr;have H:=yh h;have du:∀wx:World,wx.heap[r]? =w.heap[r]?->wx.cell? (aD r 1)=some (.slice a S.puts.length ca):=λwx e=>bD (e.trans H.o.dj);have pS:=yh du;go_in;go_wp2_with fail;have Me:Calls prog 97 #[.slice (some x) 512 c] w.drew λe w'=>∃v,e= .returned v/\TwR w l v w':=
    (lH (some x) 512 c l w.drew (by omega) (yh fJ).out).mono (by rintro e w' ⟨g,rfl,i,j,b⟩;exact⟨_,rfl,g,rfl,i,j,⟨b.os,b.tape,b.output,b.size,b.block⟩⟩)
 go_region_law
  (first
   |(refine u9 (by rfl) 97 #[.slice (some x) 512 c] (by simp [go_sem]) (TwR w l) (yh Me).out ?_;rintro _ w1 ⟨g,rfl,n,q,aq⟩;have lG:w1.heap[r]? =w.heap[r]? :=aq.block r rE;have M:=pS.o w1 lG;have N:=λo=>pS.o (w1.alloc o) ((Below.heap_alloc w1 o r (iP rE aq.size)).trans lG))
   |(refine step_append_lies _ (by rfl) _ _ _ (by rfl) 0 120 u _ 2 32 underlying63 rt gv dr ec rfl (by omega) (.slice a S.puts.length ca) S.puts.length xs (by rfl) (aC H.o.db (λg e=>(Below.heap_alloc w1 _ _ (iP (H.o.lt g (H.o.Pe g e)) aq.size)).trans (aq.block g (H.o.lt g (H.o.Pe g e)))))
       (aD w1.heap.size 0) 1 1 [iV (k:Int), .slice (some (aD g 0)) 512 512] (by rfl) (by rfl) (World.news_of_block (cs:= #[iV (k:Int), .slice (some (aD g 0)) 512 512]) (t:=120) (fr:=(0,0)) (heap_alloc_new w1 _)) (by simp [Value.oneCell']) (by omega) (by unfold maxLen;omega) (by omega) (dU _) (w1.heap.size+1) (by simp) ?_;intro J bZ y fE jU uL oS;obtain⟨fb,d,aV⟩:=H.o.wrote p fJ.1 aq n q fE jU uL;have O:=pS.o y fb;have G:=ae (fb.trans H.o.dj) 1))
 all_goals
  obtain⟨D,I,f⟩:=J9 H.o.fr d aV;go_wp2_with (go_at_call 115;refine f.mono ?_;rintro e w5 ⟨rfl,jy,dX⟩);go_ret;exact⟨rfl,jy,dX⟩
section
theorem pT:(prog.info? 166).map (λi=>(i.zero,i.size,i.bytes))=some (some (.agg #[iV 0, .slice none 0 0]),2,32):=by kernel_rfl
theorem Re (w:World) (a:Option Addr) (n c b c':Nat):(binOp .eql 36 (.slice a n c) (.slice none b c')).run prog w= .ok (.bool a.isNone) w:=Lib.run_eql_slice_nil w _ _ a n c b c' underlying36
structure PL (w:World) (X:Nat->Prop) (v:Value) (ps:List (Nat×List Int)) (xs:List Value):Prop where
 own:w.ownsRow 0 166 2 v ps.length xs
 row:∀g,v.ownBlock=some g->X g
 put:∀i (hi:i<ps.length),∃g c,xs[2*i]? =some (iV ((ps[i].1:Nat):Int))/\xs[2*i+1]? =some (.slice (some (aD g 0)) 512 c)/\X g/\ay w 5 g c (bs ps[i].2)
 len:∀q∈ps,q.2.length=512/\Bytes q.2
def Pl (w:World) (X:Nat->Prop) (v:Value) (ps:List (Nat×List Int)):Prop:=∃xs,PL w X v ps xs
theorem pU {B:Nat} {m:Nat} {v:Value} {xs:List Value} (h:W.ownsRow B e m v n xs) (a:v.ownBlock=some g):g<W.heap.size:=by
 obtain⟨_,⟨rfl,_⟩|⟨d,b,cur,rfl,_,c,_⟩⟩:=h
 .simp [Value.ownBlock] at a
 .simp [Value.ownBlock] at a;subst a;exact(kN.1 c).1
section
variable {w w':World} {X Y G:Nat->Prop} {v:Value} {ps:List (Nat×List Int)} {xs:List Value}
theorem PL.form (h:PL w X v ps xs):
  ∃a c,v= .slice a ps.length c/\(0<ps.length->∃b,a=some (aD b 0)/\∀i (f:i<ps.length),∃g d,w.cell? ⟨b,i*2,none⟩=some (iV ((ps[i].1:Nat):Int))/\w.cell? ⟨b,i*2+1,none⟩=some (.slice (some (aD g 0)) 512 d)/\X g/\ay w 5 g d (bs ps[i].2)):=by
 have j:=h.own;obtain⟨_,⟨e,r⟩|⟨b,m,cur,e,_⟩⟩:=h.own
 .exact⟨none,0,by rw [e,r],λh0=>by omega⟩
 .refine⟨_,_,e,λ_=>⟨b,rfl,λi f=>?_⟩⟩;obtain⟨g,d,n,o,p,q⟩:=h.put i f;have k:=j.cells (g:=b) (by rw [e];rfl) _ _ n;have l:=j.cells (g:=b) (by rw [e];rfl) _ _ o;rw [aK,Nat.zero_add] at k l;exact⟨g,d,by rw [Nat.mul_comm];exact k,by rw [Nat.mul_comm];exact l,p,q⟩
theorem PL.au (h:PL w X v ps xs) (d:aa G w w') (l:∀g,v.ownBlock=some g->¬G g) (hd:∀g c ys,X g->ay w 5 g c ys->¬G g):PL w' X v ps xs:=by
 refine⟨aC h.own (λg e=>d.block g (pU h.own e) (l g e)),h.row,λi k=>?_,h.len⟩;obtain⟨g,c,f,j,b,a⟩:=h.put i k;exact⟨g,c,f,j,b,a.agree (d.block g a.lt (hd g _ _ b a))⟩
theorem PL.mono (h:PL w X v ps xs) (a:∀g,X g->Y g):PL w Y v ps xs:=
   ⟨h.own,λg e=>a _ (h.row g e),λi k=>by obtain⟨g,c,b,d,f,j⟩:=h.put i k;exact⟨g,c,b,d,a _ f,j⟩,h.len⟩
theorem Pl.au (h:Pl w X v ps) (a:aa G w w') (b:∀g,v.ownBlock=some g->¬G g) (hd:∀g c ys,X g->ay w 5 g c ys->¬G g):Pl w' X v ps:=by
 obtain⟨xs,h⟩:=h;exact⟨xs,h.au a b hd⟩
theorem Pl.later (h:Pl w X v ps) (a:bW w w'):Pl w' X v ps:=h.au (aa.ah (λ_=>False) a) (λ_ _ h=>h) (λ_ _ _ _ _ h=>h)
theorem Pl.mono (h:Pl w X v ps) (a:∀g,X g->Y g):Pl w Y v ps:=by obtain⟨xs,h⟩:=h;exact⟨xs,h.mono a⟩
theorem Pl.row (h:Pl w X v ps):∀g,v.ownBlock=some g->X g:=by obtain⟨xs,h⟩:=h;exact h.row
theorem Pl.rlt (h:Pl w X v ps):∀g,v.ownBlock=some g->g<w.heap.size:=by obtain⟨xs,h⟩:=h;exact λg e=>pU h.own e
theorem Pl.len (h:Pl w X v ps):∀q∈ps,q.2.length=512/\Bytes q.2:=by obtain⟨xs,h⟩:=h;exact h.len
theorem Pl.form (h:Pl w X v ps):
  ∃a c,v= .slice a ps.length c/\(0<ps.length->∃gp,a=some (aD gp 0)/\∀i (hi:i<ps.length),∃g cg,w.cell? ⟨gp,i*2,none⟩=some (iV ((ps[i].1:Nat):Int))/\w.cell? ⟨gp,i*2+1,none⟩=some (.slice (some (aD g 0)) 512 cg)/\X g/\ay w 5 g cg (bs ps[i].2)):=by obtain⟨xs,h⟩:=h;exact h.form
theorem Pl.nil (w:World) (X:Nat->Prop):Pl w X (.slice none 0 0) []:=⟨[],⟨rfl, .inl ⟨rfl,rfl⟩⟩,λg e=>by simp [Value.ownBlock] at e,λi a=>by simp at a,λq b=>by cases b⟩
theorem Pl.ne (h:Pl w X v ps) (d:v.ownBlock=some g) {a:Nat×Nat} (c:w.heap[q]? =some (.cells cur e' a)) (b:e'≠166):g≠q:=by
 obtain⟨xs,h⟩:=h;exact dR h.own d c b
theorem Pl.other (h:Pl w X v ps) {d:Nat×Nat} (a:w.heap[k]? =some (.cells cur e d)) (f:e≠166) (g:e≠5) (i:aa (λj=>j=k) w w'):Pl w' X v ps:=
 h.au i (λb m e=>h.ne m a f e) (λb n c _ l e=>l.ne a g e)
structure PV (w:World) (X:Nat->Prop) (v:Value) (ps:List (Nat×List Int)):Prop where
 form:∃a c,v= .slice a ps.length c/\(0<ps.length->∃gp o,a=some (aD gp o)/\X gp/\∀i (hi:i<ps.length),∃g cg,w.cell? ⟨gp,o+i*2,none⟩=some (iV ((ps[i].1:Nat):Int))/\w.cell? ⟨gp,o+i*2+1,none⟩=some (.slice (some (aD g 0)) 512 cg)/\X g/\ay w 5 g cg (bs ps[i].2))
 len:∀q∈ps,q.2.length=512/\Bytes q.2
theorem Pl.pv (h:Pl w X v ps):PV w X v ps:=by
 obtain⟨a,c,e,f⟩:=h.form;refine⟨⟨a,c,e,λh0=>?_⟩,h.len⟩;obtain⟨b,d,g⟩:=f h0;refine⟨b,0,d,h.row b (by rw [e,d];rfl),λi bm=>?_⟩;rw [Nat.zero_add];exact g i bm
theorem di (b:aa G w w') (c:¬G g) {u:Value} (a:w.cell? (aD g j)=some u):w'.cell? (aD g j)=some u:=by
 have bm:g<w.heap.size:=by
  apply Decidable.byContradiction;intro d;simp only [World.cell?] at a;rw [Array.getElem?_eq_none (by omega)] at a;cases a
 have:=b.block g bm c;simp only [World.cell?] at a⊢;rw [this];exact a
theorem PV.au (h:PV w X v ps) (d:aa G w w') (b:∀g,X g->¬G g):PV w' X v ps:=by
 obtain⟨⟨a,c,t,q⟩,s⟩:=h;refine⟨⟨a,c,t,λh0=>?_⟩,s⟩;obtain⟨l,o,p,e,r⟩:=q h0;refine⟨l,o,p,e,λi bm=>?_⟩;obtain⟨g,k,m,n,f,j⟩:=r i bm;exact⟨g,k,di d (b _ e) m,di d (b _ e) n,f,j.agree (d.block g j.lt (b _ f))⟩
theorem PV.later (h:PV w X v ps) (a:bW w w'):PV w' X v ps:=h.au (aa.ah (λ_=>False) a) (λ_ _ h=>h)
def Zh (w:World) (X:Nat->Prop) (o:Option (List Int)) (e:Ending):Prop:=
   (o=none/\e= .returned (.slice none 0 0))\/∃l g c,o=some l/\e= .returned (.slice (some (aD g 0)) 512 c)/\X g/\ay w 5 g c (bs l)
theorem qN (h:PV w X v ps) (k:Nat) (aT:ps.length<=5000000000000):
  Calls prog 134 #[v,iV (k:Int)] w λe w'=>Zh w X (fnd ps k) e/\w'=w:=by
 obtain⟨a,c,rfl,sB⟩:=h.form;go_in;go_wp2;go_loopw [5] (λi wr=>∃j:Nat,j<=ps.length/\i=iV ((j:Int)-1)/\wr=w/\∀i (d:i<ps.length),j<=i->ps[i].1≠k) (λi _=>(intOf i+1).toNat);case atStart=>exact⟨ps.length,bP _,rfl,rfl,λi d h=>by omega⟩
 case round=>
  obtain⟨j,m,rfl,rfl,iZ⟩:=hrel;have nS:=yh iZ;cases j with
  |zero=>
   have l:=yh (uB (ps:=ps) (b:=k) (λq s=>by
    obtain⟨j,m,rfl⟩:=List.mem_iff_getElem.1 s;exact nS.o j m (by omega)))
   go_wp2;go_ret;exact⟨.inl ⟨l.out,rfl⟩,rfl⟩
  |succ j=>
   obtain⟨x,o,rfl,_,r⟩:=(yh sB).out (by omega);obtain⟨g,n,u,y,p,t⟩:=r j (by omega);by_cases f:ps[j].1=k
   .have l:=yh (TS (ps:=ps) (by omega) f (λi d h=>nS.o i d (by omega)));rw [f] at u;go_wp2;go_ret;exact⟨.inr ⟨_,g,n,l.out,rfl,p,(yh t).out⟩,rfl⟩
   .have dG:(((ps[j].1:Nat):Int) == (k:Int))=false:=(by rw [Bool.eq_false_iff,ne_eq,beq_iff_eq];omega);have J8:∀i (d:i<ps.length),j<=i->ps[i].1≠k:=λi d h=>by
     by_cases e:i=j
     .subst e;exact f
     .exact nS.o i d (by omega)
    go_wp2;go_roundw;case rel=>exact⟨j,by omega,by go_num,trivial,(yh J8).out⟩
    case measure=>simp [intOf]
end
end
end Go.Proofs.YtenlkgicpllbhaaGreat
