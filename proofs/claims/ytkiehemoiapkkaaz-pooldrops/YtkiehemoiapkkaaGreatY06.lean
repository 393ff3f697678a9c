import Derived.Test.YtkiehemoiapkkaaGreatY01
import Derived.Test.YtkiehemoiapkkaaGreatY03
import Derived.Test.YtkiehemoiapkkaaGreatY04
import Derived.Test.YtkiehemoiapkkaaGreatY05
import Derived.Laws.AppendOwn
import Derived.Lib.AppendStr
import Derived.OwnWalk
import Derived.Deep.RegionLaw
import Derived.Laws.BitsAllLaws
import Derived.Deep.RegionHeld3
import Derived.Laws.Shifts
import Derived.Deep.OwnRows
set_option maxRecDepth 20000
set_option maxHeartbeats 8000000
set_option linter.all false
namespace Go.Proofs.YtkiehemoiapkkaaGreat
open Go.Proofs.Tryz
open Go.RowKit Go.Maps
variable {S S':DS} {d l:List Int} {N c cR f i j k n p s:Nat} {F:Nat->Prop} {w w' w0 w1 w2:World}
section
namespace V
structure Inv (S:DS) (s:Nat) (ls:List LG) (t:Nat):Prop where
 ok:S.Ok s
 jl:S.fL
 p6:S.puts.length<=6000
 p2:S.fuse≠0->S.puts.length<=256
 l0:0<=S.life
 lt:S.life<=t
 ol:∀L∈ls,L.Ok s/\L.life<=S.life
 li:(ls.map LG.life).Pairwise (·< ·)
 al:∀L∈ls,L.life=S.life->S.fuse≠0->L.Fit S
def iR {x:Int} {t:Nat} (h0:0<=x) (a:x<=t) (b:t<=1000000000000000000):wrap64 (x+1)=x+1:=by
 unfold wrap64;omega
section
variable {S S':DS} {s t i:Nat} {ls:List LG} {L L':LG}
def Inv.zero (c:S.Ok s) (jl:S.fL) (d:S.puts.length=0) (a:0<=S.life) (b:S.life<=t):Inv S s [] t:=
   ⟨c,jl,by omega,λ_=>by omega,a,b,λ_ h=>(by cases h),List.Pairwise.nil,λ_ h=>(by cases h)⟩
def Inv.step (h:Inv S s ls t):Inv S s ls (t+1):=⟨h.ok,h.jl,h.p6,h.p2,h.l0,by have:=h.lt;omega,h.ol,h.li,h.al⟩
def Inv.next (h:Inv S s ls t) (b:S'.Ok s) (jl:S'.fL) (d:S'.puts.length<=6000) (c:S'.fuse≠0->S'.puts.length<=256) (f:S'.life=S.life+1):Inv S' s ls (t+1):=by
 refine⟨b,jl,d,c,by have:=h.l0;omega,by have:=h.lt;omega,λL a=>⟨(h.ol L a).1,?_⟩,h.li,λL a e=>?_⟩
 .have:=(h.ol L a).2;omega
 .have:=(h.ol L a).2;omega
def Inv.at (h:Inv S s ls t) (hi:ls[i]? =some L):L.Ok s/\L.life<=S.life:=h.ol L (RA hi)
def Cx (h:(ls.map LG.life).Pairwise (·< ·)) (hi:ls[i]? =some L) (g:ls[j]? =some L') (e:L'.life=L.life):j=i:=by
 rw [List.pairwise_iff_getElem] at h;obtain⟨d,b⟩:=RB.1 hi;obtain⟨f,c⟩:=RB.1 g;rcases Nat.lt_trichotomy j i with a|a|a
 .have:=h j i (by simpa using f) (by simpa using d) a;simp only [List.getElem_map,b,c] at this;omega
 .exact a
 .have:=h i j (by simpa using d) (by simpa using f) a;simp only [List.getElem_map,b,c] at this;omega
def Inv.on (h:Inv S s ls t) (hi:ls[i]? =some L) (m:L.life=S.life) (k:S'.Ok s) (jl:S'.fL) (n:S'.life=S.life) (l:S'.puts.length<=6000) (b:L'.Ok s) (QA:L'.life=L.life) (c:S'.fuse≠0->L'.Fit S'):Inv S' s (ls.set i L') t:=by
 have aS:=(RB.1 hi).1;have zL:∀M∈ls.set i L',M=L'\/∃j,j≠i/\ls[j]? =some M:=λM d=>by
  obtain⟨j,a⟩:=List.mem_iff_getElem?.1 d;by_cases e:j=i
  .subst e;rw [zS8 aS] at a;exact .inl (Option.some.inj a).symm
  .rw [ZH (λh=>e h.symm)] at a;exact .inr ⟨j,e,a⟩
 refine⟨k,jl,l,λf=>?_,by have:=h.l0;omega,by have:=h.lt;omega,λM d=>?_,?_,λM d e f=>?_⟩
 .have:=c f;unfold LG.Fit at this;have a1:=b.hn;have a2:=b.n2;cases g:L'.begun with
  |true=>have:=(this.1 g).1;omega
  |false=>have:=(this.2 g).1;omega
 .rcases zL M d with rfl|⟨j,_,a⟩
  .exact⟨b,by omega⟩
  .have:=h.at a;exact⟨this.1,by omega⟩
 .rw [List.map_set,QA];have:ls.map LG.life=(ls.map LG.life).set i L.life:=by
   apply List.ext_getElem?;intro j;by_cases e:j=i
   .subst e;rw [zS8 (by simpa using aS),zGm,hi];rfl
   .rw [ZH (λh=>e h.symm)]
  rw [<-this];exact h.li
 .rcases zL M d with rfl|⟨j,eM,a⟩
  .exact c f
  .exact absurd (Cx h.li hi a (by omega)) eM
def Inv.same (h:Inv S s ls t) (hi:ls[i]? =some L):Inv S s (ls.set i L) t:=by
 have:ls.set i L=ls:=by
  apply List.ext_getElem?;intro j;by_cases e:j=i
  .subst e;rw [zS8 (RB.1 hi).1,hi]
  .rw [ZH (λh=>e h.symm)]
 rw [this];exact h
def mQ (h:L.dead S=false):L.life=S.life/\S.fuse≠0:=by
 unfold LG.dead at h;rw [Bool.or_eq_false_iff] at h;have a:=h.1;rw [oE] at a;have:S.life=L.life:=by simpa using h.2
 exact⟨this.symm,a⟩
def kM (h:L.aX S=0):L.dead S=false/\L.begun=true:=by
 unfold LG.aX at h;split at h
 .omega
 .rename_i a;split at h
  .rename_i b;exact⟨by simpa using a,b⟩
  .omega
def sD (h:S.Ok s) (a:f+1<s):(S.fl s).2.num f=S.num f:=by
 unfold DS.num;rw [eW h (by omega),eW h a]
def Inv.take (h:Inv S s ls t) (a:t<=1000000000000000000):Inv S.take s ls (t+1):=
 h.next ⟨h.ok.len,h.ok.lo,h.ok.hi,h.ok.puts,h.ok.fuse⟩ h.jl.take h.p6 h.p2 (iR h.l0 h.lt a)
def Inv.sync (h:Inv S s ls t) (hi:ls[i]? =some L):Inv (L.sync S s).2 s (ls.set i L) t:=by
 unfold LG.sync;split
 .exact h.same hi
 .rename_i j;obtain⟨hd,d⟩:=kM (Decidable.of_not_not j);obtain⟨b,f⟩:=mQ hd;have a:=(h.at hi).1;have l:=a.s;have k:=a.n1;by_cases e:(S.fl s).1=0
  .have g:=gS e;refine h.on hi b (oD h.ok) (h.jl.fl s) (ff S s) (by rw [g];exact iq _) a rfl (λ_=>⟨λ_=>⟨by rw [g];exact iq _,?_⟩,λc=>by rw [d] at c;cases c⟩);rw [sD h.ok (by omega)];exact((h.al L (RA hi) b f).1 d).2
  .have:=jF e;exact absurd this.2.1 f
def Inv.start (h:Inv S s ls t) (hi:ls[i]? =some L) (a:(L.start S s).2.1.Ok s):Inv (L.start S s).2.1 s (ls.set i (L.start S s).2.2) t:=by
 unfold LG.start at*;split
 .exact h.same hi
 .rename_i hd;rw [aB hd] at a;obtain⟨g,m⟩:=mQ (by simpa using hd:L.dead S=false);split
  .exact h.same hi
  .rename_i j;rw [aB j] at a;have nh:L.begun=false:=(by simpa using j);have b:=(h.at hi).1;have oX:=(h.al L (RA hi) g m).2 nh;obtain⟨p,n,q⟩:=tO b.s b.n1 b.top;have k:(((L.top+1:Nat):Int)*4294967296+((0:Nat):Int))=(((L.top+1)*4294967296:Nat):Int):=(by omega);rw [k] at a⊢;obtain⟨N,l⟩:=cF ((L.top+1)*4294967296);rw [<-l] at a oX⊢;have o:=iy (bT h.ok L.f (by omega)) (bT h.ok (L.f+1) (by omega)) (N:=N) (by omega) oX.2;split
   .rename_i h0;rw [aN h0] at a;obtain⟨d,e⟩:=kL (by omega) o h0
    dsimp only at a⊢
    exact h.on hi g a (h.jl.cw s L.f _) (fo _ _ _ _) (by omega) b rfl (λc=>absurd d c)
   .rename_i h0;rw [aB h0] at a;obtain⟨d,e⟩:=og (s:=s) (f:=L.f) (N:=N) h.ok (by omega) (by omega) (by omega) oX.2 (Decidable.of_not_not h0)
    dsimp only at a⊢
    refine h.on hi g a (h.jl.cw s L.f _) (fo _ _ _ _) (by rw [e];exact iq _) ⟨p,n,b.n2,by show L.top+1<=_;omega,b.top,di _,by show 0<=_;omega,by show 0<=_;omega,λ_=>by show 0<=_;omega⟩ rfl (λ_=>⟨λ_=>⟨by rw [e];exact iq _,?_⟩,λc=>by cases c⟩);show (cw S s L.f (N:Int)).2.num L.f<=(L.top+1)*4294967296+0;rw [d];omega
def Ff (h:L.gd S i=0):L.aX S=0/\1<=i/\i<=8364/\L.head+bI i<=1073741824/\L.head+bI i<=L.tail+L.n:=by
 unfold LG.gd at h
 repeat' split at h
 all_goals first|omega|(rename_i a b c d e;exact⟨by omega,by omega,by omega,by omega,by omega⟩)
def JJ (h:S.fL) (hd:Bytes d) (k:Nat):(ei L S s d k).2.fL:=
 nY h (λj T a=>by
  unfold jN;split
  .exact a
  .exact a.wr s _ _ (B3 (tj ((hd.drop _).take _)))) k
def Inv.append (h:Inv S s ls t) (hi:ls[i]? =some L) (hd:Bytes d) (b:(L.append S s d).2.1.Ok s):Inv (L.append S s d).2.1 s (ls.set i (L.append S s d).2.2) t:=by
 unfold LG.append at*;split
 .exact h.same hi
 .rename_i g;rw [aB g] at b;obtain⟨q,dj,dV,o,v⟩:=Ff (Decidable.of_not_not g);obtain⟨qd,j⟩:=kM q;obtain⟨e,k⟩:=mQ qd;have a:=(h.at hi).1;have oX:=(h.al L (RA hi) e k).1 j;obtain⟨l,p,zJ,cC,A1⟩:=gB a.s a.n1 a.n2 a.th (h.p2 k);have u:bI d.length<=17:=by unfold bI;omega
  obtain⟨m,n,r,w⟩:=oh (L:=L) (S:=S) (s:=s) (d:=d) (by omega) l (bI d.length);have ey:=JJ (L:=L) (s:=s) h.jl hd (bI d.length);split
  .rename_i h0;rw [aN h0] at b
   dsimp only at b⊢
   exact h.on hi e b ey m (by omega) a rfl (λc=>absurd (r h0) c)
  .rename_i h0;rw [aB h0] at b
   dsimp only at b⊢
   refine h.on hi e b ey m (by omega) ⟨l,p,zJ,a.ep,a.top,by show L.tail<=L.head+_;omega,by show L.head+_<=_;omega,by show L.head+_<=_;omega,λ_=>o⟩ rfl (λ_=>⟨λ_=>⟨?_,?_⟩,λc=>by rw [show ({L with head:=L.head+bI d.length}:LG).begun=L.begun from rfl,j] at c;cases c⟩)
   .show _<=L.head+bI d.length-L.tail;omega
   .show DS.num _ L.f<=_;unfold DS.num;rw [n L.f (by omega),n (L.f+1) (by omega)];exact oX.2
def Inv.format (h:Inv S s ls t) (q:t<=1000000000000000000) (f n:Int) (d:(cT S s f n).2.Ok s):Inv (cT S s f n).2 s ls (t+1):=by
 unfold cT at*;split
 .exact h.step
 .rename_i j;rw [aB j] at d;obtain⟨o,a,b,rfl,rfl,pA,aq,aG⟩:=it (Decidable.of_not_not j);simp only [t7] at*;have vx:=iR h.l0 h.lt q;have dw:S.take.Ok s:=⟨h.ok.len,h.ok.lo,h.ok.hi,h.ok.puts,h.ok.fuse⟩;obtain⟨l,g,r,u⟩:=lC (f:=a) (n:=b) dw pA;have x:=pZ S.take s a b;have A1:S.take.puts.length<=256:=h.p2 o;split
  .rename_i h0;rw [aN h0] at d;exact h.next d (h.jl.take.Qg s a b) (by omega) (λc=>absurd (r h0) c) (l.trans vx)
  .rename_i h0;rw [aB h0] at d;obtain⟨m,v⟩:=u (Decidable.of_not_not h0);have p:=iy (bT g a (by omega)) (bT g (a+1) (by omega)) (N:=4294967296) (by omega) (by show DS.num _ a<_;rw [m];omega);have ir:=(fo (dq S.take s a b).2 s a 4294967296).trans (l.trans vx);by_cases k:(cw (dq S.take s a b).2 s a 4294967296).1=0
   .obtain⟨i,e⟩:=og (s:=s) (f:=a) (N:=4294967296) g (by omega) (by omega) (by omega) (by rw [m];omega) k;have w:(cw (dq S.take s a b).2 s a 4294967296).2.puts.length=0:=congrArg List.length e;exact h.next d ((h.jl.take.Qg s a b).cw s a _) (by omega) (λ_=>by omega) ir
   .obtain⟨i,e⟩:=kL (by omega) p k;rw [v] at e;exact h.next d ((h.jl.take.Qg s a b).cw s a _) (xv e (by simp)) (λc=>absurd i c) ir
def Inv.ug (h:Inv S s ls t) (b:t<=1000000000000000000) (f n:Int) (a:(bU S s f n).1≠0):Inv (bU S s f n).2 s ls (t+1):=by
 unfold bU at*;split
 .exact h.step
 .rename_i d;rw [aB d] at a;split
  .exact h.take b
  .rename_i e;rw [aB e] at a;split
   .exact h.take b
   .rename_i g;rw [aB g] at a;obtain⟨c,i,_⟩:=jF a;rw [c];exact h.take b
def Inv.opened (h:Inv S s ls t) (A:t<=1000000000000000000) (f n:Int) (m:(bU S s f n).2.Ok s) (d:(bU S s f n).1=0) {hd:Nat} (u:(bG S f.toNat).2.1<=hd) (v:hd<=(bG S f.toNat).2.1+n.toNat):Inv (bU S s f n).2 s (ls ++ [LG.opened S f.toNat n.toNat hd]) (t+1):=by
 unfold bU at*;split
 .rename_i l;rw [aN l] at d;exact absurd d l
 .rename_i l;rw [aB l] at m d;split
  .rename_i j;rw [aN j] at d;exact absurd (Int.ofNat_eq_zero.1 d) j
  .rename_i j;rw [aB j] at m d;split
   .rename_i p;rw [aN p] at d;cases d
   .rename_i p;rw [aB p] at m d;obtain⟨z,a,b,rfl,rfl,pA,aq,aG⟩:=it (Decidable.of_not_not l);simp only [t7] at*;have vx:=iR h.l0 h.lt A;have dw:S.take.Ok s:=⟨h.ok.len,h.ok.lo,h.ok.hi,h.ok.puts,h.ok.fuse⟩;have o:=gS d;have ir:(S.take.fl s).2.life=S.life+1:=(ff _ _).trans vx;have E:=ui (Decidable.of_not_not j);have Vt:=Ha (n:=b) (Decidable.of_not_not j);have i:=h.next m (h.jl.take.fl s) (by rw [o];exact iq _) (λ_=>by rw [o];exact iq _) ir;have w:(LG.opened S a b hd).life=S.life+1:=vx;refine⟨i.ok,i.jl,i.p6,i.p2,i.l0,i.lt,λM k=>?_,?_,λM k e z=>?_⟩
    .rcases List.mem_append.1 k with g|g
     .exact i.ol M g
     .obtain rfl:=List.mem_singleton.1 g;refine⟨⟨pA,aq,aG,E.2.1,?_,u,v,?_,λc=>by cases c⟩,by omega⟩
      .show iC S a b<_;omega
      .show hd<=_;omega
    .rw [List.map_append,List.pairwise_append];refine⟨h.li,List.pairwise_singleton _ _,λx C y D=>?_⟩;obtain⟨M,k,rfl⟩:=List.mem_map.1 C;have:=(h.ol M k).2;simp only [List.map_cons,List.map_nil,List.mem_singleton] at D;omega
    .rcases List.mem_append.1 k with g|g
     .have:=(h.ol M g).2;omega
     .obtain rfl:=List.mem_singleton.1 g;refine⟨λc=>(by cases c),λ_=>⟨(by rw [o];rfl),?_⟩⟩;rw [show (LG.opened S a b hd).f=a from rfl,sD dw (by omega)];have r:S.take.num a=S.num a:=rfl;have G:(bG S a).1=S.num a / 4294967296:=by
       have q:=Decidable.of_not_not j;unfold bG gQ at*;split at q
       .cases q
       .rename_i F;rw [aB F];rfl
      have H:(bG S a).1<=iC S a b:=(by unfold iC;omega);rw [r];show S.num a<(iC S a b+1)*4294967296;omega
end
end V
end
def Xz:CM.Ok []:=List.Pairwise.nil
def below (ms:CM) (b:Nat):CM:=ms.filter (λq=>decide (q.1<b))
def fS (n:Nat):CM:=(List.range n).map λi=>(i,zs 512)
def Cy (n:Nat):(fS n).length=n:=by simp [fS]
def JK (n:Nat):fS (n+1)=fS n ++ [(n,zs 512)]:=by simp [fS,List.range_succ]
def JL (h:j<=n):∃r,fS n=fS j ++ r:=by
 refine⟨(fS n).drop j,?_⟩;have:fS j=(fS n).take j:=by
  unfold fS;rw [<-List.map_take,List.take_range,Nat.min_eq_left h]
 rw [this,List.take_append_drop]
def el (S:DS) (s a n:Nat):Int×DS:=if (ax S s a (fS n)).1≠0 then ax S s a (fS n) else (ax S s a (fS n)).2.fl s
def mR (S:DS) (s a n:Nat):(el S s a n).2.puts.length<=S.puts.length+n:=by
 have h:=eZ S s a (fS n);rw [Cy] at h;unfold el;split
 .exact h
 .exact xv (oC _ _) h
def yr (hd:B.aj w F p s S c) (a b:Nat) (pA:a<=b) (M:b<=4000000000) (bn:S.puts.length+(b-a)+1<=4000000000000):
  Calls prog 47 #[pQ p,iV (a:Int),iV (b:Int)] w λe w'=>e= .returned (iV (el S s a (b-a)).1)/\B.aj w' (more F w w') p s (el S s a (b-a)).2 c/\ad F w w':=by
 obtain⟨n,rfl⟩:∃n,b=a+n:=⟨b-a,by omega⟩;rw [Nat.add_sub_cancel_left] at bn⊢;clear pA;obtain⟨R,u⟩:=cF (el S s a n);rw [<-u];unfold el at u;obtain⟨iH,H,D⟩:=pJ hd.lt hd u;clear hd u;go_in;go_wp2_with (at_make;refine fY _ rfl _ _ rfl _ 512 512 rfl rfl rfl (di _) (by omega) ?_;intro w1 aA aq);have ZJ:=aA.lt;have fN:Src w1 (some (aD w.heap.size 0)) 512 (zs 512):=by
  have:=aA.src (o:=0) (n:=512) (by rw [bN];omega);rwa [List.drop_zero,wl (by rw [bN];omega)] at this
 obtain⟨Pf,pd,ew⟩:=pJ fN (H.o.later aq) aq;clear aA aq fN;have K:((a+n:Nat):Int)<=4000000000:=by omega
 go_loopw [8] (λi wr=>∃j:Nat,j<=n/\i=iV ((a+j:Nat):Int)/\(ax S s a (fS j)).1=0/\B.aj wr (more F w1 wr) p s (ax S s a (fS j)).2 c/\ad F w1 wr) (λi _=>a+n-(intOf i).toNat);case atStart=>exact⟨0,iq _,rfl,rfl,pd.o.more,ad.refl _ _⟩
 case round=>
  clear pd;obtain⟨j,N,rfl,v,hd,dR⟩:=hrel;have Z2:=dR.size;have uj:=eZ S s a (fS j);rw [Cy] at uj;have Z4:Yh (∀k,F k->k<w1.heap.size):=λk A=>by have:=iH.o k A;omega
  have C:¬F w.heap.size:=λA=>by have:=iH.o _ A;omega
  by_cases aS:j<n
  .have cH:((a+j:Nat):Int)<((a+n:Nat):Int):=(by omega);have nD:=Pf.o.oa dR (λy L _ e=>by
    cases L;exact C e)
   have nP:ax S s a (fS (j+1))=(ax S s a (fS j)).2.wr s ((a+j:Nat):Int) 512 (zs 512):=by
    rw [JK,gH,aB (λh=>h v)];simp only [ax];split
    .rfl
    .rename_i h;generalize DS.wr _ _ _ _ _=Z at*;rw [<-(Decidable.byContradiction h)]
   have g:=B.Ac hd ((a+j:Nat):Int) (some (aD w.heap.size 0)) 512 512 (zs 512) nD (by omega);rw [<-nP] at g;obtain⟨r,G⟩:=JL (Nat.succ_le_of_lt aS);have oe:ax S s a (fS n)=if (ax S s a (fS (j+1))).1≠0 then ax S s a (fS (j+1)) else ax (ax S s a (fS (j+1))).2 s a r:=by
    rw [G];exact gH S s a _ _
   obtain⟨Y,z⟩:=cF (ax S s a (fS (j+1)));rw [<-z] at g oe;obtain⟨E,I,t⟩:=pJ z oe dR;clear z oe nP G hd dR nD v uj;by_cases m:Y.1=0
   .have J:(Y.1 != 0)=false:=(by rw [m];rfl);have Pb:=yh m;clear m;go_wp2_with fail;refine j8 g λf pp cB=>?_;have ud:=cB.size;have l:Yh (B.aj f (more F w1 f) p s Y.2 c/\ad F w1 f):=⟨pp.mono (xO Z2 ud) (cQ (F:=F) (w:=w1) Z4.o (by omega)),t.o.trans cB (λk d=>d.elim .inl (λh=> .inr h.1))⟩;clear g pp cB;go_wp2;go_roundw;case rel=>exact⟨j+1,by omega,by go_num,by rw [<-E.o];exact Pb.o,by rw [<-E.o];exact l.o.1,l.o.2⟩
    case measure=>simp [intOf];omega
   .have J:(Y.1 != 0)=true:=(by rw [rO];exact m);have Pb:=yh m;clear m;go_wp2_with fail;refine j8 g λf pp cB=>?_;have ud:=cB.size;have l:Yh (B.aj f (more F w f) p s Y.2 c/\ad F w f):=⟨pp.mono (λk d=>by
     rcases d with (d|d)|d
     .exact .inl d
     .exact .inr ⟨by omega,by omega⟩
     .exact .inr ⟨by omega,d.2⟩) (cQ (F:=F) (w:=w) iH.o (by omega)),((ad.ag F ew.o).trans t.o (λ_ h=> .inl h)).trans cB (λk d=>d.elim .inl (λh=> .inr (by omega)))⟩
    clear g pp cB;go_wp2;go_ret;have x:R=Y:=(by rw [D.o,I.o,aN Pb.o,aN Pb.o]);rw [x];exact⟨rfl,l.o⟩
  .obtain rfl:j=n:=(by omega);have g:=B.sv hd (by omega);have t:=yh dR;have q:R=(ax S s a (fS j)).2.fl s:=(by rw [D.o,aB (λh=>h v)]);rw [<-q] at g;clear hd dR q v uj aS;go_wp2_with fail;refine j8 g λf pp cB=>?_;have ud:=cB.size;have l:Yh (B.aj f (more F w f) p s R.2 c/\ad F w f):=⟨pp.mono (λk d=>by
    rcases d with d|d
    .exact .inl d
    .exact .inr ⟨by omega,by omega⟩) (cQ (F:=F) (w:=w) iH.o (by omega)),((ad.ag F ew.o).trans t.o (λ_ h=> .inl h)).trans cB (λk d=>d.elim .inl (λh=> .inr (by omega)))⟩
   clear g pp cB;go_wp2;go_ret;exact⟨rfl,l.o⟩
namespace B
def M6 (h:aj w F p s S cR) (f n:Nat) (Z9:f+2+n<=s) (M:n<=256) (bn:S.puts.length+400<=4000000000000):
  Calls prog 95 #[jg p f n] w λe w'=>e= .returned (iV (dq S s f n).1)/\aj w' (more F w w') p s (dq S s f n).2 cR/\ad F w w':=by
 obtain⟨N,l,D,JM⟩:=jJ h.ok.hi h.lt ((cW w.heap.size w).alloc (di _) (.cells #[.pointer (some ⟨p,0,none⟩), .int .i64 f, .int .i64 n] 136)) ((h.boxed (.cells #[.pointer (some ⟨p,0,none⟩), .int .i64 f, .int .i64 n] 136)));have H:=D;clear h D;go_in;go_wp2_with (at_make;refine fY _ rfl _ _ rfl _ 512 512 rfl rfl ?c1 ?c2 ?c3 ?_);case c1=>rfl
 case c2=>omega
 case c3=>omega
 intro w1 aA aq;have kE:=JM.later aq;have cO:w1.heap[w.heap.size]? =some (.cells #[.pointer (some ⟨p,0,none⟩), .int .i64 f, .int .i64 n] 136 (0,0)):=(aq.block _ (by simp)).trans (heap_alloc_new _ _);obtain⟨fy,J,K,pd⟩:=jJ aA.lt cO aA kE;have ew:=(H.trans (aq.mono (by simp)));have z:(¬F w.heap.size/\¬F (w.heap.size+1)):=⟨λh=>by have:=l _ h;omega,λh=>by have:=l _ h;omega⟩;have c1:=bY cO;clear aA aq kE cO;go_wp2;clear c1;go_loopw [4] (λi wr=>∃k:Nat,k<=n+2/\i=iV ((f+k:Nat):Int)/\(bE S s f k).1=0/\aj wr (more F w1 wr) p s (bE S s f k).2 cR/\ad F w1 wr) (λi _=>f+n+2-(intOf i).toNat);case atStart=>exact⟨0,iq _,by simp,rfl,pd.more,ad.refl _ _⟩
 case round=>
  obtain⟨k,b,rfl,E,hd,dR⟩:=hrel;have cO:=(dR.block _ (by omega) z.1).trans J;have M7:gA wr 5 (w.heap.size+1) (zs 512):=(dR.block _ (by omega) z.2).trans K;have A:=aL cO;have c1:=bY cO;have c2:=cJ cO;obtain⟨G,y,Aj,t,mI,u⟩:=rY (BE p f n wr (by omega) (by omega) (by omega) (by omega)) E hd dR cO M7;clear E hd dR cO M7;go_wp2_with fail;refine ef G λL aG=>?_;have cO:=(aG.block _ (af mI)).trans mI;have M7:gA L 5 (w.heap.size+1) (zs 512):=(aG.block _ (af u)).trans u;obtain⟨dS,k8,eE,rS,A1⟩:=gB (Aj.later aG) ((t.trans (ad.ag (λ_=>False) aG) (λ_ h=>h.elim))) aG.size t.size (ti S s f k);clear G aG A c1 c2;have A:=aL cO;by_cases q:k<n+2
  .have aS:((f+k:Nat):Int)<(f:Int)+2+(n:Int):=(by omega);have fN:=M7.src (o:=0) (n:=512) (by rw [bN];omega);rw [List.drop_zero,wl (by rw [bN];omega)] at fN;have m:=Ac dS ((f+k:Nat):Int) (some ⟨w.heap.size+1,0,none⟩) 512 512 (zs 512) fN (by omega);have C:bE S s f (k+1)=(bE S s f k).2.wr s ((f+k:Nat):Int) 512 (zs 512):=kF y;rw [<-C] at m;clear fN C cO M7 dS;go_wp2_with fail;refine j8 m λr eO aR=>?_;have a:=(eO.mono (λk b=>by rcases b with (b|b)|b;exact .inl b;exact .inr ⟨b.1,by have:=aR.size;omega⟩;exact .inr ⟨by omega,b.2⟩) (cQ (F:=F) (w:=w1) (λk b=>by have:=l k b;omega) (by have:=aR.size;omega)):aj r (more F w1 r) p s (bE S s f (k+1)).2 cR);have v:=k8.trans aR (λj a=>by rcases a with a|a;exact .inl a;exact .inr a.1);have c:=a;have VE:=v;clear eO aR m a v;by_cases g:(bE S s f (k+1)).1=0
   .have d:((bE S s f (k+1)).1 == 0)=true:=(by rw [beq_iff_eq];exact g);have I:=g;clear g;go_wp2;go_roundw;case rel=>exact⟨k+1,by omega,by go_num,I,c,VE⟩
    case measure=>simp [intOf];omega
   .have d:((bE S s f (k+1)).1 == 0)=false:=(by rw [oE];exact g);have x:dq S s f n=bE S s f (k+1):=by
     have:bE S s f (n+2)=bE S s f (k+1):=ic g (n+2) (by omega);unfold dq;rw [this,aN g]
    clear g;go_wp2;go_ret;rw [x];exact⟨rfl,c.from (w:=w) l (by omega) VE.size,(ad.ag F ew).trans VE (λ_ h=> .inl h)⟩
  .have aS:¬((f+k:Nat):Int)<(f:Int)+2+(n:Int):=(by omega);obtain rfl:k=n+2:=(by omega);have m:=sv dS (by omega);have x:dq S s f n=(bE S s f (n+2)).2.fl s:=by
    unfold dq;rw [aB (by have:=y;omega)]
   have K4:=x;clear x cO M7 dS;go_wp2_with fail;refine j8 m λr eO aR=>?_;have c:=((eO.wide (λk b=>by have:=l k b;omega) rS (by have:=aR.size;omega):aj r (more F w1 r) p s ((bE S s f (n+2)).2.fl s).2 cR));have VE:=(k8.trans aR (λj a=>by rcases a with a|a;exact .inl a;exact .inr a.1):ad F w1 r);clear eO aR m;go_wp2;go_ret;rw [K4];exact⟨rfl,c.from (w:=w) l (by omega) VE.size,(ad.ag F ew).trans VE (λ_ h=> .inl h)⟩
def Fg (h:aj w F p s S cR) (ey:S.fL) (f n:Int) (bn:S.puts.length+500<=4000000000000):
  Calls prog 48 #[pQ p,iV f,iV n] w λe w'=>e= .returned (iV (cT S s f n).1)/\aj w' (more F w w') p s (cT S s f n).2 (cR+2)/\ad F w w':=by
 have A:=h.lt;have E8:¬F w.heap.size:=λg=>by have:=h.lt _ g;omega
 have r:=(an w (.cells #[.pointer (some ⟨p,0,none⟩), .int .i64 f, .int .i64 n] 136));have D2:(w.alloc (.cells #[.pointer (some ⟨p,0,none⟩), .int .i64 f, .int .i64 n] 136)).heap[w.heap.size]? =some (.cells #[.pointer (some ⟨p,0,none⟩), .int .i64 f, .int .i64 n] 136 (0,0)):=heap_alloc_new _ _;have uM:=h.boxed (.cells #[.pointer (some ⟨p,0,none⟩), .int .i64 f, .int .i64 n] 136);have g:=qS uM f n;have t:=uM;unfold cT;by_cases q:cP S s f n=0
 .rw [aB (by omega)];obtain⟨KV,a,b,rfl,rfl,pA,aq,aG⟩:=it q;rw [q] at g;simp only [t7];have G:=pZ S.take s a b;have ahu:S.take.puts.length=S.puts.length:=rfl;have l:=((ey.take).Qg s a b);have z:=(λm (dS:aj m F p s S.take cR)=>M6 dS a b pA aG (by simpa [DS.take] using (show S.puts.length+400<=4000000000000 by omega)));generalize dq S.take s a b=Y at*;by_cases k:Y.1=0
  .rw [aB (λh=>h k)];have d:(Y.1 == 0)=true:=(by rw [beq_iff_eq];exact k);go_in;go_wp2_with fail;refine ef g λw1 c=>?_;have dj:w1.heap[w.heap.size]? =_:=(c.block _ (by simp)).trans D2;go_wp2_with fail;refine(tp (t.later c)).mono ?_;rintro e m ⟨rfl,dS,aK⟩;have dV:=dg dj aK E8;have u:=aL dV;have v:=bY dV;have x:=cJ dV;have k8:=((ad.ag F (r.trans (c.mono (by simp)))).trans aK (λ_ h=> .inl h));go_wp2_with fail;refine(z m dS).mono ?_;rintro e y ⟨rfl,eO,aR⟩;have gy:=dg dV aR E8;obtain⟨u,v,x,nV,eE,rS⟩:=rY (aL gy) (bY gy) (cJ gy) ((k8.trans aR (λ_ h=> .inl h))) k8.size aR.size;have C:=EZ eO a b 1 0 (by omega) (by omega) (by omega) (by omega) (l.now a) (l.now (a+1));rw [show ((1:Nat):Int)*4294967296+((0:Nat):Int)=4294967296 by decide] at C;go_wp2_with fail;refine j8 C λD tQ dF=>?_;have wt:=dF.size;have E:=(aQ ((tQ.mono (λk i=>by
    rcases i with (i|i)|i
    .exact .inl i
    .exact .inr ⟨by omega,by omega⟩
    .exact .inr ⟨by omega,i.2⟩) (cQ (F:=F) (w:=w) A (by omega)):aj D (more F w D) p s _ (cR+2))) (nV.trans dF (λj o=>by
    rcases o with o|o
    .exact .inl o
    .exact .inr (by omega))))
   go_wp2;go_ret;exact⟨rfl,E⟩
  .rw [aN k];have d:(Y.1 == 0)=false:=(by rw [oE];exact k);go_in;go_wp2_with fail;refine ef g λw1 c=>?_;have dj:w1.heap[w.heap.size]? =_:=(c.block _ (by simp)).trans D2;go_wp2_with fail;refine(tp (t.later c)).mono ?_;rintro e m ⟨rfl,dS,aK⟩;have dV:=dg dj aK E8;have u:=aL dV;have v:=bY dV;have x:=cJ dV;have k8:=((ad.ag F (r.trans (c.mono (by simp)))).trans aK (λ_ h=> .inl h));go_wp2_with fail;refine(z m dS).mono ?_;rintro e y ⟨rfl,eO,aR⟩;have gy:=dg dV aR E8;have u:=aL gy;have v:=bY gy;have x:=cJ gy;go_wp2;go_ret;exact⟨rfl,aQ (((eO.from A k8.size aR.size).le (by omega):aj y (more F w y) p s Y.2 (cR+2))) (k8.trans aR (λ_ h=> .inl h))⟩
 .rw [aN q];have d:(cP S s f n == 0)=false:=by rw [oE];exact q
  generalize cP S s f n=U at*;go_in;go_wp2_with fail;refine ef g λw1 c=>?_;go_wp2;go_ret;exact⟨rfl,(aQ (((t.later c).more (w:=w)).le (by omega:cR<=cR+2)) (ad.ag F (r.trans (c.mono (by simp)))))⟩
end B
def mS (m:Nat):Builtin.zeroCells (Value.int .u8 0).cells m=(bs (List.replicate m 0)).toArray:=by
 apply Array.ext';apply List.ext_getElem
 .simp [Builtin.zeroCells,bs,Value.cells]
 .intro i a b;simp [Builtin.zeroCells,bs,Nat.mod_one,Value.cells]
def Ak (w:World) (base:Nat) (E:TypeId) (v:Value) (n:Nat) (l:List Int) (m:Nat) (bB:w.ownsRow base 5 1 v n (bs l)) (F:n+m<=1000000) (yt:base<=w.heap.size) (sq:0<n+m):
  ∃g c w',(Builtin.append_ #[44,3] E #[v,iV (m:Int)]).run prog w= .ok (.slice (some (aD g 0)) (n+m) c) w'/\
   w'.ownsRow base 5 1 (.slice (some (aD g 0)) (n+m) c) (n+m) (bs (l ++ List.replicate m 0))/\w.grownBy w' v.ownBlock:=by
 obtain⟨i,hi,iX,eR,eE⟩:=info_parts gU;have qI:(bs l).length=n:=by simpa using bB.1
 have JN:l.length=n:=by simpa [bs] using qI
 have Fh:IntKind.i64.wrap (m:Int)=(m:Int):=by rw [IntKind.wrap_i64];omega
 have h0:¬(m:Int)<0:=by omega
 have d:¬(281474976710656<(m:Int)):=by omega
 have j:∀w,(asInt (iV (m:Int))).run prog w= .ok (m:Int) w:=λ_=>rfl;have fU:(bs (l ++ List.replicate m 0))=bs l ++ bs (List.replicate m 0):=by simp [bs]
 have b:∀(old:Nat) (row:Option Nat),
     (w.drew.alloc (.cells ((bs l).toArray ++ (bs (List.replicate m 0)).toArray ++ Builtin.zeroCells (Value.int .u8 0).cells (grownCap w (n+m) old 5-(n+m))) 5)).ownsRow base 5 1
      (.slice (some (aD w.heap.size 0)) (n+m) (grownCap w (n+m) old 5)) (n+m) (bs (l ++ List.replicate m 0))/\
   w.grownBy (w.drew.alloc (.cells ((bs l).toArray ++ (bs (List.replicate m 0)).toArray ++ Builtin.zeroCells (Value.int .u8 0).cells (grownCap w (n+m) old 5-(n+m))) 5)) row:=by
  intro old row;have s:=grownCap_ge w (n+m) old 5;have Ba:=grownCap_le_maxLen w (n+m) old 5 (by unfold maxLen;omega);refine⟨⟨by simp [bs,JN], .inr ⟨w.heap.size,_,_,rfl,yt,heap_alloc_new w.drew _,s,Ba,?_,?_⟩⟩,⟨rfl,rfl,rfl,by simp,λk t _=>heap_alloc_old w.drew _ t⟩⟩
  .rw [mS];simp [bs,JN];omega
  .rw [fU];simp only [Array.toList_append,Nat.mul_one];exact List.take_left' (by simp [bs,JN])
 rcases bB.2 with ⟨rfl,rfl⟩|⟨g,a,cur,rfl,r,C,M8,Ba,wI,XA⟩
 .have oY:=Ef JN;subst oY;have JO:m≠0:=by omega
  have q:¬(281474976710656<Builtin.nextslicecap m 0):=by rw [nextslicecap_zero (by omega)];omega
  obtain⟨o,p⟩:=b 0 (Value.ownBlock (.slice none 0 0));simp only [Nat.zero_add] at o p⊢;refine⟨w.heap.size,_,_,?_,o,p⟩;have f:¬9223372036854775807<(m:Int):=by omega
  simp [Builtin.append_,j,sizeOf,typeInfo,zeroValue,hi,iX,eR,eE,Fh,h0,d,JO,q,f,Question.forced,run_firstCells_none,newRow,grownCap,mS]
 .have ahv:cur.size=a:=by simpa using wI
  have z:cur.toList.take n=bs l:=by simpa using XA
  by_cases JO:m=0
  .subst JO;have acq:∀w,(asInt (iV 0)).run prog w= .ok 0 w:=λ_=>rfl;have acr:IntKind.i64.wrap 0=0:=(by decide);have bu:(storeCells (aD g n) []).run prog w= .ok () w:=rfl;refine⟨g,a,w,?_,by simpa using bB,⟨rfl,rfl,rfl,di _,λ_ _ _=>rfl⟩⟩;simp [Builtin.append_,acq,sizeOf,typeInfo,hi,eR,eE,acr,M8,Addr.add_lit,bu]
  by_cases yu:n+m<=a
  .refine⟨g,a,w.setRow g (cur.toList.take n ++ bs (List.replicate m 0) ++ cur.toList.drop (n+m)).toArray,?_,⟨by simp [bs,JN], .inr ⟨g,a,_,rfl,r,setRow_heap w g cur _ 5 _ C,yu,Ba,?_,?_⟩⟩,⟨rfl,rfl,rfl,by simp,λk _ t=>setRow_other w g k _ (λe=>t (by simp [Value.ownBlock,e]))⟩⟩
   .have bu:=run_storeCells_at prog g n 5 (bs (List.replicate m 0)) 0 cur w C (by simp [bs];omega) (by intro u D;obtain⟨x,_,rfl⟩:=List.mem_map.1 D;rfl);simp only [Nat.add_zero] at bu;have y:(bs (List.replicate m 0)).length=m:=(by simp [bs]);rw [y] at bu;have A:(Builtin.zeroCells (Value.int .u8 0).cells m).toList=bs (List.replicate m 0):=(by rw [mS]);simp [Builtin.append_,j,sizeOf,typeInfo,zeroValue,hi,iX,eR,eE,Fh,h0,d,JO,yu,Addr.add_lit];rw [A,bu];simp [bs]
   .simp [bs];omega
   .rw [z,fU];exact List.take_left' (by simp [bs,JN])
  .have RO:a<n+m:=(by omega);have q:¬(281474976710656<Builtin.nextslicecap (n+m) a):=(by have:=growslice_fits (need:=n+m) (old:=a) (bytes:=1) (by omega) (by omega);omega);obtain⟨o,p⟩:=b a (Value.ownBlock (.slice (some (aD g 0)) n a));refine⟨w.heap.size,_,_,?_,o,p⟩;have f:¬9223372036854775807<(n:Int)+(m:Int):=(by omega);simp [Builtin.append_,j,sizeOf,typeInfo,zeroValue,hi,iX,eR,eE,Fh,h0,d,JO,yu,q,f,Question.forced,(run_firstCells_some (P:=prog) w.drew 1 n (aD g 0) n a (bs l) (by omega) (by simpa using (bB.cells (g:=g) rfl))),newRow,grownCap,mS]
def yv:∀k m,br (k+1) m=br k m ++ [((m / 256 ^ k%256:Nat):Int)]
 |0,m=>by simp [br]
 |k+1,m=>by
  rw [br,yv k (m / 256),br];simp [Nat.div_div_eq_div_mul,Nat.pow_succ,Nat.mul_comm]
def mT:∀k m,Bytes (br k m)
 |0,_=>by intro x a;cases a
 |k+1,m=>by
  intro x a;rcases List.mem_cons.1 a with rfl|a
  .omega
  .exact mT k _ x a
def sE (w:World) (B p:Nat) (l:List Int):Prop:=
 B<=p/\B<=w.heap.size/\∃v,w.heap[p]? =some (.cells #[v] 131 (0,0))/\w.ownsRow B 5 1 v l.length (bs l)/\v.ownBlock≠some p
def sE.put {B:Nat} {a:List Int} {v:Value} {g:Nat} (i:B<=p) (b:B<=w.heap.size) (f:w.heap[p]? =some (.cells #[v] 131 (0,0))) (l:v.ownBlock≠some p) (aS:∀k,v.ownBlock=some k->B<=k)
    (bS:w.grownBy w1 v.ownBlock) (bB:w1.ownsRow B 5 1 (.slice (some (aD g 0)) a.length c) a.length (bs a)):
  w1.cell? (aD p 0)=some v/\w1.frozen? (aD p 0)=false/\sE (w1.setCell ⟨p,0,none⟩ (.slice (some ⟨g,0,none⟩) a.length c)) B p a/\Below B w (w1.setCell ⟨p,0,none⟩ (.slice (some ⟨g,0,none⟩) a.length c)):=by
 have gM:=(bS.block p ((oF.1 f).1) (λe=>l e.symm)).trans f;have d:g≠p:=by
  obtain⟨o,c',n,_,m,_⟩:=ao.eQ bB (by simp);cases n;exact m.ne gM (by decide)
 refine⟨aa gM rfl,ae gM 0,⟨i,?_,_,heap_setCell_same _ _ _ _ _ _ gM,?_,?_⟩,?_⟩
 .simp [World.setCell];exact xv b bS.size
 .exact bB.kept (lI w1 ⟨p,0,none⟩ _) (.inr (by simpa [Value.ownBlock] using d))
 .simpa [Value.ownBlock] using d
 .exact((cW _ w).grown bS b (λk e=>aS k e)).trans ((ad.setCell (F:=λj=>j=p) (p:=⟨p,0,none⟩) w1 rfl _).below (λj q=>by omega) (xv b bS.size))
def lD (p B:Nat) (l:List Int) (m a:Nat) (w:World) (h:sE w B p l) (R:l.length+a<=100000) (G:m<=9223372036854775807):
  Calls prog 91 #[pQ p,iV (m:Int),iV (a:Int)] w λe w'=>e= .returned (.tuple #[])/\sE w' B p (l ++ br a m)/\Below B w w':=by
 obtain⟨O,hi,iX,eR,eE⟩:=info_parts gU;have H:=h;clear h;go_in;go_wp2;go_loopw [1,7] (λr i wr=>∃k:Nat,k<=a/\i=iV k/\r=iV ((m / 256 ^ k:Nat):Int)/\sE wr B p (l ++ br k m)/\Below B w wr) (λ_ i _=>a-(intOf i).toNat);case atStart=>exact⟨0,iq _,rfl,by simp,by simpa [br] using H,cW _ _⟩
 case round=>
  obtain⟨k,P,rfl,rfl,k7,pU⟩:=hrel;by_cases aS:k<a
  .have cH:(k:Int)<(a:Int):=(by omega);obtain⟨I,N,v,n,bB,C⟩:=k7;have fE:=aL n;have d:(l ++ br k m).length=l.length+k:=(by simp [aP]);rw [d] at bB;have y:m / 256 ^ (k+1)=m / 256 ^ k / 256:=(by rw [Nat.div_div_eq_div_mul,Nat.pow_succ]);have z:=yv k m;generalize J:m / 256 ^ k=Q at*;obtain⟨nC,f,t,x,ZU,b⟩:=rY bB n pU C y z;clear bB n pU C J y z;go_wp2_with (at_builtin;refine wpList_append_own _ rfl _ _ 44 rfl B 5 O (.int .u8 0) 1 1 underlying44 hi iX eR eE rfl (by decide) _ _ _ rfl (nC.alloc _) (aD wr.heap.size 0) 1 1 [.int .u8 ((Q:Int)%256)] rfl rfl ?n1 ?n2 ?n3 ?n4 ?n5 ?_);case n1=>exact cell_one_new _ _ _
   case n2=>intro u D;simp at D;subst D;rfl
   case n3=>unfold maxLen;omega
   case n4=>omega
   case n5=>simp;omega
   intro U w1 cK jy lZ;obtain⟨g,c,rfl,K,M,L⟩:=ao.eQ cK lZ;have A:List.map (Value.int .u8) l ++ (List.map (Value.int .u8) (br k m) ++ [.int .u8 ((Q:Int)%256)])=bs (l ++ br (k+1) m):=by
    rw [b];simp [bs]
   have j:l.length+k+1=(l ++ br (k+1) m).length:=(by simp [aP];omega);rw [A,j] at cK;have o:B<=(wr.alloc (.cells #[.int .u8 ((Q:Int)%256)] 5)).heap.size:=(by simp;omega);have tP:=(oF.1 f).1;obtain⟨S,T,q,s⟩:=sE.put I o ((Below.heap_alloc _ _ _ tP).trans f) x (λk e=>(nC.lt k e).1) jy cK;rw [<-j] at q s;have F:=(aQ q (((t.alloc N _).trans s)));clear cK jy lZ M K A j q s nC f t x b;go_wp2;go_roundw;case rel=>exact⟨k+1,by omega,by go_num,by rw [ZU];simp,F⟩
   case measure=>simp [intOf];omega
  .have cH:¬(k:Int)<(a:Int):=(by omega);have vo:k=a:=(by omega);subst vo;have E:=(aQ k7 pU);clear k7 pU;go_wp2
   go_end0
   exact⟨rfl,E⟩
def JP (s:ByteArray):List Int:=s.data.toList.map (λb=>(b.toNat:Int))
def QG (s:ByteArray):(JP s).length=s.size:=by simp [JP]
def JQ (s:ByteArray):Lib.strCells s=bs (JP s):=by simp [Lib.strCells,bs,JP]
def JR (p B:Nat) (l:List Int) (s:ByteArray) (w:World) (h:sE w B p l) (D:0<s.size) (C:l.length+s.size<=100000):
  Calls prog 90 #[pQ p, .string s] w λe w'=>e= .returned (.tuple #[])/\sE w' B p (l ++ JP s)/\Below B w w':=by
 obtain⟨z,hi,iX,eR,eE⟩:=info_parts gU;obtain⟨u,r,v,d,bB,o⟩:=h;obtain⟨fE,nC,m,j⟩:=jJ (aL d) bB d o;clear bB d o;go_in;go_wp2_with (at_builtin;refine Lib.wpList_append_own_string _ rfl _ _ 44 9 rfl B 5 z underlying44 underlying9 hi iX eR eE _ _ _ rfl nC s rfl ?n3 ?n4 ?n5 ?_);case n3=>unfold maxLen;omega
 case n4=>omega
 case n5=>exact r
 intro A w1 cK jy lZ;have q:A≠ .slice none 0 0:=by rintro rfl;rcases cK.2 with ⟨_,h⟩|⟨_,_,_,h,_⟩;omega;cases h
 obtain⟨g,c,rfl,x,y,b⟩:=ao.eQ cK q;rw [JQ] at cK;have n:bs l ++ bs (JP s)=bs (l ++ JP s):=by simp [bs]
 have a:l.length+s.size=(l ++ JP s).length:=by simp [QG]
 rw [n,a] at cK;obtain⟨E,F,f,i⟩:=sE.put u r m j (λk e=>(nC.lt k e).1) jy cK;rw [<-a] at f i;have t:=(aQ f i);clear cK jy lZ y x n a f i nC m j q b;go_wp2
 go_end0
 exact⟨rfl,t⟩
def Fi {b:Array Oper} {o:Oper} {a:Act} {K:Act->World->Prop} {Q:Exit->Act->World->Prop} {E:Prop}
    (e:o.guard=none) (s x:Operand) (wn:o.op=Op.call {callee:=Callee.builtin Builtin.append,args:= #[s,x],argTypes:= #[44,3]})
    (base:Nat) (v:Value) (n:Nat) (l:List Int) (m:Nat) (i:a.eval s=v) (k:a.eval x=iV (m:Int)) (bB:w.ownsRow base 5 1 v n (bs l)) (f:n+m<=1000000) (yt:base<=w.heap.size) (sq:0<n+m)
    (d:∀g c w',w'.ownsRow base 5 1 (.slice (some (aD g 0)) (n+m) c) (n+m) (bs (l ++ List.replicate m 0))->w.grownBy w' v.ownBlock->K (a.put o.dst (.slice (some (aD g 0)) (n+m) c)) w'):
  if Region.wanted o (yielded b a.tmps)=true then Oper.wp prog o a w K Q else E:=by
 have j:Region.wanted o (yielded b a.tmps)=true:=by simp [Region.wanted,e]
 rw [aN j];obtain⟨g,c,w',ct,p,q⟩:=Ak w base o.type v n l m bB f yt sq;unfold Oper.wp;simp [execOp,wn,resolve,invoke,builtin,i,k,ct,Result.andThen];exact d g c w' p q
def Fj (p B:Nat) (l:List Int) (m:Nat) (w:World) (h:sE w B p l) (oY:0<l.length) (z:l.length+m<=100000):
  Calls prog 92 #[pQ p,iV ((l.length+m:Nat):Int)] w λe w'=>e= .returned (.tuple #[])/\sE w' B p (l ++ List.replicate m 0)/\Below B w w':=by
 obtain⟨s,o,v,n,bB,u⟩:=h;obtain⟨g,c,x,WP,A,_⟩:=ao.eQ bB (by rintro rfl;rcases bB.2 with ⟨_,h⟩|⟨_,_,_,h,_⟩;omega;cases h);subst x;have fE:=aL n;have lV:w.drew.ownsRow B 5 1 (.slice (some (aD g 0)) l.length c) l.length (bs l):=bB;have XB:((l.length+m:Nat):Int)-(l.length:Int)=(m:Int):=by omega
 have acs:∀{f d:Nat} {a:World},a.ownsRow B 5 1 (.slice (some (aD f 0)) (l.length+m) d) (l.length+m) (bs (l ++ List.replicate m 0))->w.drew.grownBy a (Value.ownBlock (.slice (some (aD g 0)) l.length c))->
   a.cell? (aD p 0)=some (.slice (some (aD g 0)) l.length c)/\a.frozen? (aD p 0)=false/\Yh (sE (a.setCell ⟨p,0,none⟩ (.slice (some ⟨f,0,none⟩) (l.length+m) d)) B p (l ++ List.replicate m 0)/\Below B w (a.setCell ⟨p,0,none⟩ (.slice (some ⟨f,0,none⟩) (l.length+m) d))):=by
  intro f d a g9 uC;have j:l.length+m=(l ++ List.replicate m (0:Int)).length:=by simp
  rw [j] at g9;obtain⟨q,r,i,b⟩:=sE.put (w:=w.drew) s o n u (λk e=>(bB.lt k e).1) uC g9;rw [<-j] at i b;exact⟨q,r,i,⟨b.os,b.tape,b.output,b.size,b.block⟩⟩
 have y:IntKind.i64.wrap (m:Int)=(m:Int):=by rw [IntKind.wrap_i64];omega
 generalize t:l.length+m=N at*;go_in;go_wp2
 go_region_law
  (first
   |(refine Fi (by rfl) _ _ (by rfl) B (.slice (some (aD g 0)) l.length c) l.length l m (by rfl) (by rfl) (yh lV).out (by omega) o (by omega) ?_;intro f d a g9 uC;obtain⟨q,r,i⟩:=acs (t▸g9) uC))
 all_goals
  go_end0
  exact⟨rfl,i.out⟩
def vy (s l n:Int):Prop:=(18<=l/\l<=256)/\(4<=n/\n<=1024)/\n%4=0/\(l+n / 4+6<=s/\s<=2048)
def Hr (s l n:Int) (v:Value) (x:Int):Prop:=
   (vy s l n/\v= .agg #[iV l,iV (3+l),iV (s-(3+l)),iV n,iV (2+n / 4)]/\x=0)\/(¬vy s l n/\v= .agg #[iV 0,iV 0,iV 0,iV 0,iV 0]/\x=22)
def bQ (w:World) (a b:Obj):bW w ((w.alloc a).alloc b):=Below.alloc (Below.alloc (cW _ _) (di _) _) (by simp) _
def oN (s l n:Int) (w:World) (c:18<=l) (d:l<=256) (f:4<=n) (g:n<=1024) (a:n%4=0) (s1:l+n / 4+6<=s) (s2:s<=2048):
  Calls prog 89 #[.agg #[iV s,iV l,iV n]] w λe w'=>e= .returned (.tuple #[.agg #[iV l,iV (3+l),iV (s-(3+l)),iV n,iV (2+n / 4)],iV 0])/\bW w w':=by
 have b:n.tmod 4=n%4:=V5 (by omega);have hd:n.tdiv 4=n / 4:=Int.tdiv_eq_ediv_of_nonneg (by omega);have s3:3+l+(2+n / 4)+1<=s:=by omega
 go_in;go_wp2;refine bodyPost_ret (v:= .tuple #[.agg #[iV l,iV (3+l),iV (s-(3+l)),iV n,iV (2+n / 4)],iV 0]) (by simp [results,results89,go_sem]) rfl ⟨rfl,bQ w _ _⟩
def JS (s l n:Int) (w:World) (h:¬(18<=l/\l<=256)):
  Calls prog 89 #[.agg #[iV s,iV l,iV n]] w λe w'=>e= .returned (.tuple #[.agg #[iV 0,iV 0,iV 0,iV 0,iV 0],iV 22])/\bW w w':=by
 by_cases a:18<=l
 .have b:¬l<=256:=by omega
  go_in;go_wp2;exact bodyPost_ret (v:= .tuple #[.agg #[iV 0,iV 0,iV 0,iV 0,iV 0],iV 22]) (by simp [results,results89,go_sem]) rfl ⟨rfl,bQ w _ _⟩
 .have c:l<18:=by omega
  go_in;go_wp2;exact bodyPost_ret (v:= .tuple #[.agg #[iV 0,iV 0,iV 0,iV 0,iV 0],iV 22]) (by simp [results,results89,go_sem]) rfl ⟨rfl,bQ w _ _⟩
def JT (s l n:Int) (w:World) (d:18<=l) (f:l<=256) (h:¬(4<=n/\n<=1024)):
  Calls prog 89 #[.agg #[iV s,iV l,iV n]] w λe w'=>e= .returned (.tuple #[.agg #[iV 0,iV 0,iV 0,iV 0,iV 0],iV 22])/\bW w w':=by
 by_cases a:4<=n
 .have b:¬n<=1024:=by omega
  go_in;go_wp2;exact bodyPost_ret (v:= .tuple #[.agg #[iV 0,iV 0,iV 0,iV 0,iV 0],iV 22]) (by simp [results,results89,go_sem]) rfl ⟨rfl,bQ w _ _⟩
 .have c:n<4:=by omega
  go_in;go_wp2;exact bodyPost_ret (v:= .tuple #[.agg #[iV 0,iV 0,iV 0,iV 0,iV 0],iV 22]) (by simp [results,results89,go_sem]) rfl ⟨rfl,bQ w _ _⟩
def JU (s l n:Int) (w:World) (c:18<=l) (d:l<=256) (f:4<=n) (g:n<=1024) (h:¬n%4=0):
  Calls prog 89 #[.agg #[iV s,iV l,iV n]] w λe w'=>e= .returned (.tuple #[.agg #[iV 0,iV 0,iV 0,iV 0,iV 0],iV 22])/\bW w w':=by
 have b:n.tmod 4=n%4:=V5 (by omega);have a:(n%4 != 0)=true:=by rw [rO];exact h
 go_in;go_wp2;exact bodyPost_ret (v:= .tuple #[.agg #[iV 0,iV 0,iV 0,iV 0,iV 0],iV 22]) (by simp [results,results89,go_sem]) rfl ⟨rfl,bQ w _ _⟩
def JV (s l n:Int) (w:World) (g:18<=l) (i:l<=256) (j:4<=n) (k:n<=1024) (c:n%4=0) (h:¬(l+n / 4+6<=s/\s<=2048)):
  Calls prog 89 #[.agg #[iV s,iV l,iV n]] w λe w'=>e= .returned (.tuple #[.agg #[iV 0,iV 0,iV 0,iV 0,iV 0],iV 22])/\bW w w':=by
 have f:n.tmod 4=n%4:=V5 (by omega);have hd:n.tdiv 4=n / 4:=Int.tdiv_eq_ediv_of_nonneg (by omega);by_cases b:3+l+(2+n / 4)+1<=s
 .have a:¬s<=2048:=by omega
  go_in;go_wp2;exact bodyPost_ret (v:= .tuple #[.agg #[iV 0,iV 0,iV 0,iV 0,iV 0],iV 22]) (by simp [results,results89,go_sem]) rfl ⟨rfl,bQ w _ _⟩
 .have d:s<3+l+(2+n / 4)+1:=by omega
  by_cases a:2048<s
  .omega
  .clear h;go_in;go_wp2;exact bodyPost_ret (v:= .tuple #[.agg #[iV 0,iV 0,iV 0,iV 0,iV 0],iV 22]) (by simp [results,results89,go_sem]) rfl ⟨rfl,bQ w _ _⟩
def Cz (s l n:Int) (w:World):
  Calls prog 89 #[.agg #[iV s,iV l,iV n]] w λe w'=>∃v x,e= .returned (.tuple #[v,iV x])/\Hr s l n v x/\bW w w':=by
 have b:¬vy s l n->∀(e:Ending) (w':World),(e= .returned (.tuple #[.agg #[iV 0,iV 0,iV 0,iV 0,iV 0],iV 22])/\bW w w')->∃v x,e= .returned (.tuple #[v,iV x])/\Hr s l n v x/\bW w w':=
  λi e w' h=>⟨_,_,h.1, .inr ⟨i,rfl,rfl⟩,h.2⟩
 by_cases a:18<=l/\l<=256
 .by_cases c:4<=n/\n<=1024
  .by_cases d:n%4=0
   .by_cases f:l+n / 4+6<=s/\s<=2048
    .exact(oN s l n w a.1 a.2 c.1 c.2 d f.1 f.2).mono (λe w' h=>⟨_,_,h.1, .inl ⟨⟨a,c,d,f⟩,rfl,rfl⟩,h.2⟩)
    .exact(JV s l n w a.1 a.2 c.1 c.2 d f).mono (b (λg=>f g.2.2.2))
   .exact(JU s l n w a.1 a.2 c.1 c.2 d).mono (b (λg=>d g.2.2.1))
  .exact(JT s l n w a.1 a.2 c).mono (b (λg=>c g.2.1))
 .exact(JS s l n w a).mono (b (λg=>a g.1))
def sE.tM {B:Nat} (h:sE w B p l) (a:bW w w'):sE w' B p l:=by
 obtain⟨c,f,v,b,bB,e⟩:=h;exact⟨c,xv f a.size,v,(a.block p ((oF.1 b).1)).trans b,bB.kept (row:=none) ⟨a.os,a.tape,a.output,a.size,λk d _=>a.block k d⟩ (by cases g:v.ownBlock <;> simp),e⟩
def sE.new (w:World):sE (w.alloc (.cells #[.slice none 0 0] 131)) w.heap.size w.heap.size []:=
   ⟨di _,by simp,_,heap_alloc_new w _,World.ownsRow_nil _ _ _ _,by simp [Value.ownBlock]⟩
def sE.row {B:Nat} (h:sE w B p l) (h0:0<l.length):∃g c,w.cell? (aD p 0)=some (.slice (some (aD g 0)) l.length c)/\B<=g/\ao w 5 g c (bs l):=by
 obtain⟨e,i,v,a,bB,f⟩:=h;obtain⟨g,c,d,WP,b,_⟩:=ao.eQ bB (by rintro rfl;rcases bB.2 with ⟨_,h⟩|⟨_,_,_,h,_⟩;omega;cases h);subst d;exact⟨g,c,aa a rfl,WP,b⟩
def eT (l:List Int):List Int:=l ++ br 4 (sumOf l)
def qi (l:List Int):(eT l).length=l.length+4:=by simp [eT,aP]
def CA (p B:Nat) (l:List Int) (w:World) (h:sE w B p l) (h0:0<l.length) (m:l.length+4<=100000) (d:Bytes l):
  Calls prog 93 #[pQ p] w λe w'=>∃g c,e= .returned (.slice (some (aD g 0)) (l.length+4) c)/\B<=g/\ao w' 5 g c (bs (eT l))/\Below B w w':=by
 obtain⟨g,c,fE,q,n⟩:=h.row h0;have o:=h.2.1;have BC:=uc (some (aD g 0)) l.length c l w d (by omega) n.src;have r:=qE d;have k:=(show eT l=l ++ br 4 (sumOf l) from rfl);generalize sumOf l=S at*;go_in;go_wp2_with fail;refine ef BC λw1 aq=>?_;have mH:Calls prog 91 #[pQ p,iV (S:Int),iV 4] w1 λe w'=>e= .returned (.tuple #[])/\sE w' B p (l ++ br 4 S)/\Below B w1 w':=lD p B l S 4 w1 (h.tM aq) m (by omega);have ew:=aq.mono o;go_wp2_with fail;refine j8 mH λf IM aG=>?_;obtain⟨a,b,T7,dU,eB⟩:=IM.row (by simp [aP]);have j:(l ++ br 4 S).length=l.length+4:=by simp [aP]
 rw [j] at T7;have i:(B<=a/\ao f 5 a b (bs (eT l))/\Below B w f):=⟨dU,by rw [k];exact eB,ew.trans aG⟩;go_wp2;go_ret;exact⟨a,b,rfl,i⟩
def Sd:ByteArray:=⟨#[118,101,108,108,117,109,0,1]⟩
def iI:List Int:= [118,101,108,108,117,109,0,1]
def M9:JP Sd=iI:=by decide+kernel
def bV (s l n:Nat):List Int:=iI ++ br 4 s ++ br 4 l ++ br 4 n ++ List.replicate 488 0
def eC (s l n:Nat):(bV s l n).length=508:=by simp only [bV,iI,gT,aP,List.length_replicate,List.length_cons,List.length_nil]
def ja (s l n:Nat):Bytes (bV s l n):=by
 intro x a;simp only [bV,List.mem_append] at a;rcases a with (((h|h)|h)|h)|h
 .simp [iI] at h;omega
 .exact mT _ _ x h
 .exact mT _ _ x h
 .exact mT _ _ x h
 .have:=List.eq_of_mem_replicate h;omega
def Made (w w':World) (v:Value) (l:List Int):Prop:=∃g c,v= .slice (some (aD g 0)) l.length c/\w.heap.size<=g/\ao w' 5 g c (bs l)/\bW w w'
def CB (s l n:Nat) (w:World) (m:vy s l n):
  Calls prog 45 #[.agg #[iV (s:Int),iV (l:Int),iV (n:Int)]] w λe w'=>∃v,e= .returned (.tuple #[v,iV 0])/\Made w w' v (eT (bV s l n)):=by
 obtain⟨⟨u,x⟩,⟨y,z⟩,r,s1,s2⟩:=m;go_in;go_wp2_with fail;refine((λw=>oN s l n w u x y z r s1 s2) _).mono ?_;rintro e w1 ⟨rfl,aq⟩;have aH:=((cW _ w).alloc (di _) _).trans (aq.mono (by simp));have p:w1.heap[w.heap.size]? =some (.cells #[.int .i64 (s:Int), .int .i64 (l:Int), .int .i64 (n:Int)] 31 (0,0)):=(aq.block _ (by simp)).trans (heap_alloc_new _ _);have Hi:=(oF.1 p).1;have L4:=λo=>by have:=sE.new (w1.alloc o);simpa using this
 have a:∀o,bW w ((w1.alloc o).alloc (.cells #[.slice none 0 0] 131))/\((w1.alloc o).alloc (.cells #[.slice none 0 0] 131)).heap[w.heap.size]? =some (.cells #[.int .i64 (s:Int), .int .i64 (l:Int), .int .i64 (n:Int)] 31 (0,0)):=λo=>
    ⟨(aH.alloc (by omega) _).alloc (by simp;omega) _,(Below.heap_alloc _ _ _ (by simp;omega)).trans ((Below.heap_alloc _ _ _ Hi).trans p)⟩
 have aS:w.heap.size<w1.heap.size+1:=by omega
 go_wp2_with fail;refine((λo=>JR (w1.heap.size+1) (w1.heap.size+1) [] Sd _ (L4 o) (by decide) (by decide)) _).mono ?_;rintro e d ⟨rfl,IM,aG⟩;obtain⟨eY,xI⟩:bW w d/\d.heap[w.heap.size]? =some (.cells #[.int .i64 (s:Int), .int .i64 (l:Int), .int .i64 (n:Int)] 31 (0,0)):=⟨(a _).1.trans (aG.mono (by omega)),(aG.block _ aS).trans (a _).2⟩;rw [M9,List.nil_append] at IM;have D:=aL xI;have zJ:Calls prog 91 #[.pointer (some ⟨w1.heap.size+1,0,none⟩),iV (s:Int),iV 4] d λe w'=>e= .returned (.tuple #[])/\sE w' (w1.heap.size+1) (w1.heap.size+1) (iI ++ br 4 s)/\Below (w1.heap.size+1) d w':=lD _ _ _ s 4 d IM (by decide) (by omega);go_wp2_with fail;refine j8 zJ λf act bH=>?_;obtain⟨gP,Xr⟩:bW w f/\f.heap[w.heap.size]? =some (.cells #[.int .i64 (s:Int), .int .i64 (l:Int), .int .i64 (n:Int)] 31 (0,0)):=⟨eY.trans (bH.mono (by omega)),(bH.block _ aS).trans xI⟩;have E:=bY Xr;have P6:Calls prog 91 #[.pointer (some ⟨w1.heap.size+1,0,none⟩),iV (l:Int),iV 4] f λe w'=>e= .returned (.tuple #[])/\sE w' (w1.heap.size+1) (w1.heap.size+1) (iI ++ br 4 s ++ br 4 l)/\Below (w1.heap.size+1) f w':=lD _ _ _ l 4 f act (by rw [gT,aP];decide) (by omega);go_wp2_with fail;refine j8 P6 λi Aa eK=>?_;obtain⟨mu,j⟩:bW w i/\i.heap[w.heap.size]? =some (.cells #[.int .i64 (s:Int), .int .i64 (l:Int), .int .i64 (n:Int)] 31 (0,0)):=⟨gP.trans (eK.mono (by omega)),(eK.block _ aS).trans Xr⟩;have F:=cJ j;have TT:Calls prog 91 #[.pointer (some ⟨w1.heap.size+1,0,none⟩),iV (n:Int),iV 4] i λe w'=>e= .returned (.tuple #[])/\sE w' (w1.heap.size+1) (w1.heap.size+1) (iI ++ br 4 s ++ br 4 l ++ br 4 n)/\Below (w1.heap.size+1) i w':=lD _ _ _ n 4 i Aa (by rw [gT,gT,aP,aP];decide) (by omega);go_wp2_with fail;refine j8 TT λk QH gc=>?_;have b:(iI ++ br 4 s ++ br 4 l ++ br 4 n).length=20:=by rw [gT,gT,gT,aP,aP,aP];rfl
 have Tq:Calls prog 92 #[.pointer (some ⟨w1.heap.size+1,0,none⟩),iV 508] k λe w'=>e= .returned (.tuple #[])/\sE w' (w1.heap.size+1) (w1.heap.size+1) (bV s l n)/\Below (w1.heap.size+1) k w':=by
  have:=Fj _ _ _ 488 k QH (by rw [b];decide) (by rw [b];decide);rw [b] at this;exact this
 go_wp2_with fail;refine j8 Tq λA acv DZ=>?_;have XC:=CA _ _ _ A acv (by rw [eC];decide) (by rw [eC];decide) (ja s l n);rw [eC] at XC;go_wp2_with fail;refine XC.mono ?_;rintro e C ⟨g,c,rfl,m,t,GU⟩;have q:(Made w C (.slice (some (aD g 0)) 512 c) (eT (bV s l n))):=⟨g,c,by rw [qi,eC],by omega,t,((mu.trans (gc.mono (by omega))).trans (DZ.mono (by omega))).trans (GU.mono (by omega))⟩;go_wp2;go_ret2;exact⟨_,rfl,q⟩
def Al (s l n:Int) (w:World) (b:¬vy s l n):
  Calls prog 45 #[.agg #[iV s,iV l,iV n]] w λe w'=>e= .returned (.tuple #[.slice none 0 0,iV 22])/\bW w w':=by
 have c:∀w,Calls prog 89 #[.agg #[iV s,iV l,iV n]] w λe w'=>e= .returned (.tuple #[.agg #[iV 0,iV 0,iV 0,iV 0,iV 0],iV 22])/\bW w w':=λw=>by
  refine(Cz s l n w).mono ?_;rintro e w' ⟨v,x,rfl,⟨h,_⟩|⟨_,rfl,rfl⟩,a⟩
  .exact absurd h b
  .exact⟨rfl,a⟩
 go_in;go_wp2_with fail;refine(c _).mono ?_;rintro e w1 ⟨rfl,aq⟩;have aH:=((cW _ w).alloc (di _) _).trans (aq.mono (by simp));go_wp2;go_ret2;exact⟨rfl,(λo=>aH.alloc aH.size o) _⟩
section
abbrev gq (s l n:Nat):List Int:=eT (bV s l n)
def pn (S:DS) (s:Nat):Int×DS:=el S.take s 0 1
def po (S:DS) (s:Nat):Int×DS:=el (pn S s).2 s 1 (s-1)
def kW (S:DS) (s l:Nat):Int×DS:=cT (po S s).2 s 1 (l:Int)
def mt (S:DS) (s l n:Nat):Int×DS:=(kW S s l).2.wr s 0 512 (gq s l n)
def oO (S:DS) (s l n:Nat):Int×DS:=
 if (pn S s).1≠0 then pn S s else if (po S s).1≠0 then po S s else if (kW S s l).1≠0 then kW S s l else if (mt S s l n).1≠0 then mt S s l n else (mt S s l n).2.fl s
def Na (a b c:Int):Decidable (vy a b c):=by unfold vy;exact inferInstance
def cZ (S:DS) (s:Nat) (a b c:Int):Int×DS:=
 if S.fuse=0 then (3,S) else haveI:=Na a b c;if vy a b c/\a=(s:Int) then oO S s b.toNat c.toNat else (22,S)
section
variable {w:World} {F:Nat->Prop} {p s cR:Nat} {S:DS}
def QI {a b c:Int} (h:vy a b c):∃x y z:Nat,a=(x:Int)/\b=(y:Int)/\c=(z:Int):=by
 obtain⟨⟨e,f⟩,⟨g,i⟩,d,s1,s2⟩:=h;exact⟨a.toNat,b.toNat,c.toNat,by omega,by omega,by omega⟩
def ku {S:DS} (h:S.fL) (s a n:Nat):(el S s a n).2.fL:=by
 have b:=mP h s a (ms:=fS n) (λx c=>by
  unfold fS at c;obtain⟨i,_,rfl⟩:=List.mem_map.1 c;intro v d;rw [zs,List.mem_replicate] at d;omega)
 unfold el;split
 .exact b
 .exact b.fl s
def Am (b:∀k,F k->k<w0.heap.size) (Es:ad F w0 w1) (hd:B.aj w2 (more (more F w0 w1) w1 w2) p s S' c) (a:ad (more F w0 w1) w1 w2):B.aj w2 (more F w0 w2) p s S' c/\ad F w0 w2:=
   ⟨hd.mono (xO Es.size a.size) (cQ b (xv Es.size a.size)),Es.trans a (λd h=>h.elim .inl (λh=> .inr h.1))⟩
def QJ (b:∀k,F k->k<w0.heap.size) (Es:ad F w0 w1) (hd:B.aj w2 (more F w0 w1) p s S' c) (a:ad (more F w0 w1) w1 w2):B.aj w2 (more F w0 w2) p s S' c/\ad F w0 w2:=by
 have d:=a.size;exact⟨hd.mono (λk h=>h.elim .inl (λh=> .inr ⟨h.1,by omega⟩)) (cQ b (xv Es.size a.size)),Es.trans a (λk h=>h.elim .inl (λh=> .inr h.1))⟩
def rh {c':Nat} (b:∀k,F k->k<w.heap.size) (Es:ad F w w0) (h:B.aj w1 (more F w0 w1) p s S' c/\ad F w0 w1) (a:c<=c'):B.aj w1 (more F w w1) p s S' c'/\ad F w w1:=by
 have d:=Es.size;have e:=h.2.size;exact⟨(h.1.mono (λk h=>h.elim .inl (λh=> .inr ⟨by omega,h.2⟩)) (cQ b (by omega))).le a,Es.trans h.2 (λk h=> .inl h)⟩
def An (S:DS) (s:Nat) (f n:Int) (d:n<=256):(cT S s f n).2.puts.length<=S.puts.length+400:=by
 have a:=pZ S.take s f.toNat n.toNat;have b:S.take.puts.length=S.puts.length:=rfl;have c:=vq (dq S.take s f.toNat n.toNat).2 s f.toNat 4294967296;unfold cT;split
 .show S.puts.length<=_;omega
 .split
  .omega
  .omega
def CC (h:B.aj w F p s S cR) (ey:S.fL) (a b c:Int) (bn:S.puts.length+6000<=4000000000000):
  Calls prog 18 #[pQ p, .agg #[iV a,iV b,iV c]] w λe w'=>e= .returned (iV (cZ S s a b c).1)/\B.aj w' (more F w w') p s (cZ S s a b c).2 (cR+2)/\ad F w w':=by
 obtain⟨wB,Qw⟩:=cF (w.alloc (.cells #[.int .i64 a, .int .i64 b, .int .i64 c] 31));have Hf:bW w wB:=by rw [Qw];exact an _ _
 have hzB:wB.heap.size=w.heap.size+1:=by rw [Qw,World.size_alloc]
 have cO:wB.heap[w.heap.size]? =some (.cells #[.int .i64 a, .int .i64 b, .int .i64 c] 31 (0,0)):=by rw [Qw];exact heap_alloc_new _ _
 have kE:=h.later Hf;have h1:=B.zV kE;have iH:=h.lt;obtain⟨R,d⟩:=cF (cZ S s a b c);rw [<-d];unfold cZ at d;subst Qw;go_in;go_wp2_with fail;refine ef h1 λw1 bd=>?_;subst bd;by_cases J:S.fuse=0
 .rw [aN J] at d;have d1:(S.fuse == 0)=true:=by rw [beq_iff_eq];exact J
  rw [d1] at h1;go_wp2;go_ret;rw [d];exact⟨rfl,(kE.more (w:=w)).le (by omega),ad.ag F Hf⟩
 .rw [aB J] at d;have d1:(S.fuse == 0)=false:=by rw [oE];exact J
  rw [d1] at h1;by_cases C:vy a b c
  .obtain⟨x,y,z,rfl,rfl,rfl⟩:=QI C;have I:=(λw=>CB x y z w C);have kD:(gq x y z).length=512:=(by rw [gq,qi,eC]);obtain⟨c0,c1,c2,hgx,ME⟩:=gB (aL cO) (bY cO) (cJ cO) C.2.2.2.2 kE.ok.hi;by_cases ks:x=s
   .have ks':=ks.symm;subst ks';rw [aN ⟨C,rfl⟩] at d;simp only [t7] at d;have G:=I (w.alloc (.cells #[.int .i64 (s:Int), .int .i64 (y:Int), .int .i64 (z:Int)] 31));go_wp2_with fail;refine G.mono ?_;rintro e l ⟨v,rfl,g,cg,rfl,hg,aU,aG⟩;have eE:=aG.size;have E:=aL ((aG.block _ (by omega)).trans cO);have KY:=((aG.block _ (by omega)).trans cO);have nU:=(kE.later aG);have T8:=(λ(wx:World) (hb:bW l wx)=>B.nX (nU.later hb));have m:(B.aj l.drew (more F w l.drew) p s S (cR+2)/\ad F w l.drew):=⟨((kE.later (ah aG)).more (w:=w)).le (by omega),(ad.ag F Hf).trans (ad.ag (λ_=>False) (ah aG)) (λ_ h=>h.elim)⟩;go_wp2;go_region_held3 (λw'=>w'.cell? (aD w.heap.size 0)=some (iV (s:Int))) (exact E)
     (first
      |(go_at_call 46;refine(T8 _ (ah (cW _ _))).mono ?_;rintro e wy ⟨rfl,Hc⟩;have Ad:=Hc.symm;subst Ad;clear Hc))
    have hWz:=(ah (cW l.heap.size l)).size;have L:=nU.later (ah (cW _ _));have X:=(((ah (cW l.heap.size l)).block _ (by omega)).trans KY);have T9:=aU.src;rw [kD] at T9;have ZI:g<l.heap.size:=T9.old _ rfl (by omega);have N:=(T9.later (ah (cW l.heap.size l)));generalize l.drew=W at*;have h3:=B.tp L;have XD:=C.1.2;have gV:(17:Int)<=(s:Int):=(by obtain⟨⟨l1,l2⟩,⟨n1,n2⟩,h3,s1,s2⟩:=C;omega);have gM:(pn S s).2.puts.length<=S.puts.length+1:=mR S.take s 0 1;have A1:(po S s).2.puts.length<=(pn S s).2.puts.length+(s-1):=mR (pn S s).2 s 1 (s-1);have nL:(kW S s y).2.puts.length<=(po S s).2.puts.length+400:=An _ _ _ _ XD;have z8:(mt S s y z).2.puts.length<=(kW S s y).2.puts.length+1:=jL _ _ _ _ _;have K:((po S s).2.fL):=ku (ku ey.take s 0 1) s 1 (s-1);have O:=(λ(f:World) (hd:B.aj f F p s S.take cR)=>show Calls prog 47 #[pQ p,iV 0,iV 1] f λe w'=>e= .returned (iV (pn S s).1)/\B.aj w' (more F f w') p s (pn S s).2 cR/\ad F f w' from yr hd 0 1 (by omega) (by omega) (by show S.puts.length+_+1<=_;omega));have P:=(λ(f:World) (n:Nat->Prop) (hd:B.aj f n p s (pn S s).2 cR)=>show Calls prog 47 #[pQ p,iV 1,iV (s:Int)] f λe w'=>e= .returned (iV (po S s).1)/\B.aj w' (more n f w') p s (po S s).2 cR/\ad n f w' from yr hd 1 s (by omega) (by omega) (by omega));have Q:=(λ(f:World) (n:Nat->Prop) (hd:B.aj f n p s (po S s).2 cR)=>show Calls prog 48 #[pQ p,iV 1,iV (y:Int)] f λe w'=>e= .returned (iV (kW S s y).1)/\B.aj w' (more n f w') p s (kW S s y).2 (cR+2)/\ad n f w' from B.Fg hd K 1 (y:Int) (by omega));have T:=(λ(f:World) (n:Nat->Prop) (hd:B.aj f n p s (kW S s y).2 (cR+2)) (hs:Src f (some (aD g 0)) 512 (gq s y z))=>show Calls prog 49 #[pQ p,iV 0, .slice (some (aD g 0)) 512 cg] f λe w'=>e= .returned (iV (mt S s y z).1)/\B.aj w' (more n f w') p s (mt S s y z).2 (cR+2)/\ad n f w' from B.Ac hd 0 (some (aD g 0)) 512 cg (gq s y z) hs (by omega));have U:=(λ(f:World) (n:Nat->Prop) (hd:B.aj f n p s (mt S s y z).2 (cR+2))=>B.sv hd (by omega));unfold oO at d;generalize pn S s=Y at*;generalize po S s=Z at*;generalize kW S s y=Y3 at*;generalize mt S s y z=Y4 at*;go_wp2_with fail;refine j8 h3 λf eO aR=>?_;have rS:=aR.size;have h4:=O f eO;have H:∀j,w.heap.size<=j->¬F j:=λj hj hf=>by have:=iH _ hf;omega
    have QK:(∀k,F k->k<f.heap.size):=λk hf=>by have:=iH k hf;omega
    have nV:=m.2.trans aR (λ_ h=> .inl h);have Vo:=((aR.block _ (by omega) (H _ (by omega))).trans X);have M:=(N.oa aR (λy hy _ e=>by
     cases hy;exact H g (by omega) e))
    go_wp2_with fail;refine j8 h4 λw4 hd q=>?_;have o:=(aQ hd q);by_cases r:Y.1≠0
    .rw [aN r] at d;have dY:(Y.1 != 0)=true:=(by rw [rO];exact r);have m:=(rh (c':=cR+2) iH nV o (by omega));go_wp2;go_ret;rw [d];exact⟨rfl,m⟩
    .rw [aB r] at d;have dY1:(Y.1 != 0)=false:=(by rw [Decidable.byContradiction r];rfl);have cS:=aa ((o.2.block _ (by omega) (H _ (by omega))).trans Vo) (j:=0) rfl;have h5:=P _ _ o.1;go_wp2_with fail;refine j8 h5 λw5 hd q=>?_;have K4:=(Am QK o.2 hd q);by_cases t:Z.1≠0
     .rw [aN t] at d;have dY:(Z.1 != 0)=true:=(by rw [rO];exact t);have m:=(rh (c':=cR+2) iH nV K4 (by omega));go_wp2;go_ret;rw [d];exact⟨rfl,m⟩
     .rw [aB t] at d;have dY2:(Z.1 != 0)=false:=(by rw [Decidable.byContradiction t];rfl);have cL:=aa ((K4.2.block _ (by omega) (H _ (by omega))).trans Vo) (j:=1) rfl;have h6:=Q _ _ K4.1;go_wp2_with fail;refine j8 h6 λw6 hd q=>?_;have Ht:=(Am QK K4.2 hd q);by_cases u:Y3.1≠0
      .rw [aN u] at d;have dY:(Y3.1 != 0)=true:=(by rw [rO];exact u);have m:=(rh (c':=cR+2) iH nV Ht (by omega));go_wp2;go_ret;rw [d];exact⟨rfl,m⟩
      .rw [aB u] at d;have dY3:(Y3.1 != 0)=false:=(by rw [Decidable.byContradiction u];rfl);have h7:=T _ _ Ht.1 (M.oa Ht.2 (λy hy _ e=>by
        cases hy;exact H g (by omega) e))
       go_wp2_with fail;refine j8 h7 λw7 hd q=>?_;have D:=(Am QK Ht.2 hd q);by_cases A:Y4.1≠0
       .rw [aN A] at d;have dY:(Y4.1 != 0)=true:=(by rw [rO];exact A);have m:=(rh (c':=cR+2) iH nV D (by omega));go_wp2;go_ret;rw [d];exact⟨rfl,m⟩
       .rw [aB A] at d;have dY4:(Y4.1 != 0)=false:=(by rw [Decidable.byContradiction A];rfl);have h8:=U _ _ D.1;go_wp2_with fail;refine j8 h8 λw8 hd q=>?_;have m:=(rh (c':=cR+2) iH nV (QJ QK D.2 hd q) (by omega));go_wp2;go_ret;rw [d];exact⟨rfl,m⟩
   .rw [aB (λh=>ks (by have:=h.2;omega))] at d;have eM:((x:Int) != (s:Int))=true:=(by rw [rO];omega);have G:=I (w.alloc (.cells #[.int .i64 (x:Int), .int .i64 (y:Int), .int .i64 (z:Int)] 31));go_wp2_with fail;refine G.mono ?_;rintro e l ⟨v,rfl,g,cg,rfl,hg,aU,aG⟩;have eE:=aG.size;have E:=aL ((aG.block _ (by omega)).trans cO);have KY:=((aG.block _ (by omega)).trans cO);have nU:=(kE.later aG);have T8:=(λ(wx:World) (hb:bW l wx)=>B.nX (nU.later hb));have m:(B.aj l.drew (more F w l.drew) p s S (cR+2)/\ad F w l.drew):=⟨((kE.later (ah aG)).more (w:=w)).le (by omega),(ad.ag F Hf).trans (ad.ag (λ_=>False) (ah aG)) (λ_ h=>h.elim)⟩;go_wp2;go_region_held3 (λw'=>w'.cell? (aD w.heap.size 0)=some (iV (x:Int))) (exact E)
     (first
      |(go_at_call 46;refine(T8 _ (ah (cW _ _))).mono ?_;rintro e wy ⟨rfl,Hc⟩;have Ad:=Hc.symm;subst Ad;clear Hc))
    go_wp2;go_ret;rw [d];exact⟨rfl,m⟩
  .have G:=λw=>Al a b c w C;rw [aB (λh=>C h.1)] at d;obtain⟨I,c0,c1,c2⟩:=jJ G (aL cO) (bY cO) (cJ cO);have G:=I (w.alloc (.cells #[.int .i64 a, .int .i64 b, .int .i64 c] 31));go_wp2_with fail;refine ef G λl aG=>?_;have m:(B.aj l.drew (more F w l.drew) p s S (cR+2)/\ad F w l.drew):=⟨((kE.later (ah aG)).more (w:=w)).le (by omega),(ad.ag F Hf).trans (ad.ag (λ_=>False) (ah aG)) (λ_ h=>h.elim)⟩;go_wp2;refine wp_region_held_drew (S:=(λ_=>True)) (by kernel_rfl) (trivial) (λaC=>?_);refine wpAnyH_take (i:=0) (oi:={dst:=some 18,op:=Op.move (Operand.tmp 6),type:=39,pos:= "store.go:35",after:= #[],guard:=none}) (v:=iV 22) rfl (by kernel_rfl) (by kernel_rfl) (by kernel_rfl) (λ_ _ _ h=>h) (Or.inl ⟨by rfl,?_⟩) (by assumption) ?_
   .intro w aw
    (try dsimp only at aw)
    go_simp
   try simp only [Act.put,iA,jG,jZ]
   refine wpAnyH_take (i:=1) (oi:={dst:=some 19,op:=Op.binOp BinOp.neq 39 (Operand.tmp 18) (Operand.const (Value.int IntKind.i64 0)) 39,type:=4,pos:= "store.go:35",after:= #[{on:=0,ground:=Ground.data}],guard:=none}) (v:= .bool true) rfl (by kernel_rfl) (by kernel_rfl) (by kernel_rfl) (λ_ _ _ h=>h) (Or.inl ⟨by rfl,?_⟩) (by assumption) ?_
   .intro w aw
    (try dsimp only at aw)
    go_simp
   try simp only [Act.put,iA,jG,jZ]
   refine wpAnyH_take (i:=2) (oi:={dst:=some 20,op:=Op.move (Operand.tmp 19),type:=4,pos:= "store.go:35",after:= #[{on:=1,ground:=Ground.data}],guard:=none}) (v:= .bool true) rfl (by kernel_rfl) (by kernel_rfl) (by kernel_rfl) (λ_ _ _ h=>h) (Or.inl ⟨by rfl,?_⟩) (by assumption) ?_
   .intro w aw
    (try dsimp only at aw)
    go_simp
   try simp only [Act.put,iA,jG,jZ]
   refine wpAnyH_take (i:=3) (oi:={dst:=some 21,op:=Op.fieldAddr 31 (Operand.tmp 3) 0,type:=0,pos:= "store.go:35",after:= #[{on:=2,ground:=Ground.guard}],guard:=some (2,false)}) (v:=undef) rfl (by kernel_rfl) (by kernel_rfl) (by kernel_rfl) (λ_ _ _ h=>h) (Or.inr ⟨by rfl,rfl⟩) (by assumption) ?_;try simp only [Act.put,iA,jG,jZ]
   refine wpAnyH_take (i:=4) (oi:={dst:=some 22,op:=Op.load 3 (Operand.tmp 21),type:=3,pos:= "store.go:35",after:= #[{on:=3,ground:=Ground.data},{on:=2,ground:=Ground.guard}],guard:=some (2,false)}) (v:=undef) rfl (by kernel_rfl) (by kernel_rfl) (by kernel_rfl) (λ_ _ _ h=>h) (Or.inr ⟨by rfl,rfl⟩) (by assumption) ?_;try simp only [Act.put,iA,jG,jZ]
   refine wpAnyH_take (i:=5) (oi:={dst:=some 23,op:=Op.move (Operand.tmp 0),type:=33,pos:= "store.go:35",after:= #[{on:=2,ground:=Ground.guard}],guard:=some (2,false)}) (v:=undef) rfl (by kernel_rfl) (by kernel_rfl) (by kernel_rfl) (λ_ _ _ h=>h) (Or.inr ⟨by rfl,rfl⟩) (by assumption) ?_;try simp only [Act.put,iA,jG,jZ]
   refine wpAnyH_take (i:=6) (oi:={dst:=some 24,op:=Op.call {callee:=Callee.value (Operand.func 46),args:= #[Operand.tmp 23],argTypes:= #[33]},type:=3,pos:= "store.go:35",after:= #[{on:=5,ground:=Ground.data},{on:=2,ground:=Ground.chain},{on:=2,ground:=Ground.guard}],guard:=some (2,false)}) (v:=undef) rfl (by kernel_rfl) (by kernel_rfl) (by kernel_rfl) (λ_ _ _ h=>h) (Or.inr ⟨by rfl,rfl⟩) (by assumption) ?_;try simp only [Act.put,iA,jG,jZ]
   refine wpAnyH_take (i:=7) (oi:={dst:=some 25,op:=Op.binOp BinOp.neq 3 (Operand.tmp 22) (Operand.tmp 24) 3,type:=4,pos:= "store.go:35",after:= #[{on:=4,ground:=Ground.data},{on:=6,ground:=Ground.data},{on:=2,ground:=Ground.guard}],guard:=some (2,false)}) (v:=undef) rfl (by kernel_rfl) (by kernel_rfl) (by kernel_rfl) (λ_ _ _ h=>h) (Or.inr ⟨by rfl,rfl⟩) (by assumption) ?_;try simp only [Act.put,iA,jG,jZ]
   refine wpAnyH_take (i:=8) (oi:={dst:=some 26,op:=Op.pick (Operand.tmp 20) (Operand.const (Value.bool true)) (Operand.tmp 25),type:=4,pos:= "store.go:35",after:= #[{on:=2,ground:=Ground.data},{on:=7,ground:=Ground.data}],guard:=none}) (v:= .bool true) rfl (by kernel_rfl) (by kernel_rfl) (by kernel_rfl) (λ_ _ _ h=>h) (Or.inl ⟨by rfl,?_⟩) (by assumption) ?_
   .intro w aw
    (try dsimp only at aw)
    go_simp
   try simp only [Act.put,iA,jG,jZ]
   refine wpAnyH_done (by kernel_rfl) ?_ _;go_wp2;go_ret;rw [d];exact⟨rfl,m⟩
end
end
section
abbrev Ph (y:LY):Value:= .agg #[iV (y.log:Int),iV (y.home:Int),iV (y.blocks:Int),iV (y.nodes:Int),iV (y.data:Int)]
def Ua:(prog.info? 87).map (·.size)=some 5:=by kernel_rfl
def Nb (w:World) (y:LY):(w.alloc (.cells #[.int .i64 (y.log:Int), .int .i64 (y.home:Int), .int .i64 (y.blocks:Int), .int .i64 (y.nodes:Int), .int .i64 (y.data:Int)] 87)).rangeAt w.heap.size 0 [iV (y.log:Int),iV (y.home:Int),iV (y.blocks:Int),iV (y.nodes:Int),iV (y.data:Int)]:=by
 have b:=heap_alloc_new w (.cells #[.int .i64 (y.log:Int), .int .i64 (y.home:Int), .int .i64 (y.blocks:Int), .int .i64 (y.nodes:Int), .int .i64 (y.data:Int)] 87);intro j v a
 match j,a with
 |0,a=>cases a;exact aL b
 |1,a=>cases a;exact bY b
 |2,a=>cases a;exact cJ b
 |3,a=>cases a;exact jw b
 |4,a=>cases a;exact jI b
 |j+5,a=>simp at a
section
variable {w:World} {F:Nat->Prop} {p q l m t n:Nat} {y:LY} {busy:Bool} {G:SG} {T:TG}
def tA (h:lT w q p l m G.y busy) (b:lU w F q l m t n G T):
  Calls prog 61 #[pQ t] w λe w'=>e= .returned (Ph G.y)/\bW w w':=by
 have a:=an w (.cells #[.int .i64 0, .int .i64 0, .int .i64 0, .int .i64 0, .int .i64 0] 87);have c:=(b.later a).c0;have h:=h.later a;obtain⟨d,f,g,i,j⟩:=gB (cJ h) (jw h) (jI h) (PB h) (PD h);go_in;go_wp2;refine bodyPost_ret (cN (P:=prog) rfl _ _ w.heap.size _ _ rfl (Nb w G.y) underlying87 rfl Ua) rfl ⟨rfl,an _ _⟩
end
end
section
def Nc {S:DS} {s k:Nat} (a:k<s) (l:List Int):(S.wr s (k:Int) 512 l).1=0\/(S.wr s (k:Int) 512 l).1=3:=by
 unfold DS.wr;split
 .exact .inr rfl
 .rw [aB (by omega),aB (by omega)];exact .inl rfl
def fd {s h0:Nat}:∀{ms:CM} {S:DS},S.Ok s->(∀q∈ms,h0+q.1<s/\q.2.length=512)->((ax S s h0 ms).1=0\/(ax S s h0 ms).1=3)/\(ax S s h0 ms).2.life=S.life/\(ax S s h0 ms).2.Ok s/\((ax S s h0 ms).1≠0->(ax S s h0 ms).2.fuse=0)/\(∀j,(∀q∈ms,h0+q.1≠j)->(ax S s h0 ms).2.now j=S.now j)
 | [],S,hS,_=>⟨.inl rfl,rfl,hS,λh=>absurd rfl h,λ_ _=>rfl⟩
 |q :: qs,S,hS,hk=>by
  have a:=hk q List.mem_cons_self;rw [ii];by_cases e:(S.wr s ((h0+q.1:Nat):Int) 512 q.2).1≠0
  .rw [aN e];obtain⟨b,l⟩:=M3 a.1 e;refine⟨Nc a.1 _,lB _ _ _ _ _,by rw [b];exact hS,λ_=>by rw [b];exact l,λj _=>by rw [b]⟩
  .rw [aB e];have d:=Hq (Decidable.not_not.1 e);obtain⟨a1,a2,g,i,k⟩:=fd (ms:=qs) (ra hS d a.1 a.2) (λx c=>hk x (List.mem_cons_of_mem _ c));refine⟨a1,a2.trans (lB _ _ _ _ _),g,i,λj f=>?_⟩;rw [k j (λx c=>f x (List.mem_cons_of_mem _ c)),ix d a.1,aB (λh=>f q List.mem_cons_self h.symm)]
def yw {s h0 b:Nat} {c:List Int}:∀{ms:CM} {S:DS},S.Ok s->CM.Ok ms->(∀q∈ms,h0+q.1<s/\q.2.length=512)->(ax S s h0 ms).1=0->CM.get ms b=some c->(ax S s h0 ms).2.now (h0+b)=c
 | [],S,_,_,_,_,h=>by cases h
 |q :: qs,S,hS,ho,hk,Qb,hg=>by
  have d:=hk q List.mem_cons_self;have j:=List.pairwise_cons.1 ho;rw [ii] at Qb⊢;by_cases e:(S.wr s ((h0+q.1:Nat):Int) 512 q.2).1≠0
  .rw [aN e] at Qb;exact absurd Qb e
  .rw [aB e] at Qb⊢;have i:=Hq (Decidable.not_not.1 e);have a:=ra hS i d.1 d.2;have aK:=λx f=>hk x (List.mem_cons_of_mem _ f);rw [CM.lY] at hg;by_cases g:q.1=b
   .rw [aN g] at hg;cases hg;rw [(fd a aK).2.2.2.2 _ (λx f=>by have:=j.1 x f;omega),ix i d.1,aN (by omega)]
   .rw [aB g] at hg;exact yw a j.2 aK Qb hg
section
variable {w w':World} {F X:Nat->Prop} {r s k kl t hm:Nat} {S:DS} {y:LY} {v:Value} {ps:List (Nat×List Int)}
end
end
def qj (w:World):Calls prog 161 #[.bool true] w λe w'=>e= .returned (.tuple #[])/\w'=w:=by
 go_in;go_wp2
 go_end0
 exact⟨rfl,rfl⟩
abbrev lP:List PanicEntry:= [{v:= .iface 39 (iV 6),recovered:=false}]
def Ao (w:World):Calls prog 161 #[.bool false] w λe w'=>e= .panicked lP/\w'=w:=by
 go_in;go_wp2;exact⟨rfl,rfl,rfl⟩
def sF (w:World) (p b o n c k:Nat):Prop:=w.heap[p]? =some (.cells #[.slice (some ⟨b,o,none⟩) n c, .int .i64 (k:Int)] 201 (0,0))
def ul (p b o n c k m:Nat) (w:World) (h:sF w p b o n c k) (u:k+m<=n) (v:n<=c) (rU:k<c) (t:n<=1000000) (xV:c<=9223372036854775807):
  Calls prog 186 #[pQ p,iV (m:Int)] w λe w'=>e= .returned (.slice (some ⟨b,o+k,none⟩) m (c-k))/\sF w' p b o n c (k+m)/\ad (λj=>j=p) w w':=by
 have q:=aL h;have r:=bY h;have s:=ae h 1;have ahH:(m:Int)<=(n:Int)-(k:Int):=by omega
 have bd:IntKind.i64.wrap ((n:Int)-(k:Int))=(n:Int)-(k:Int):=by rw [IntKind.wrap_i64];omega
 have d:(sF (w.setCell ⟨p,1,none⟩ (.int .i64 ((k:Int)+(m:Int)))) p b o n c (k+m)):=by
  show sF _ _ _ _ _ _ _;unfold sF;rw [(heap_setCell_same _ _ 1 _ _ (iV ((k:Int)+(m:Int))) h)];simp
 have a:=(ad.setCell (F:=λj=>j=p) (p:=⟨p,1,none⟩) w rfl (iV ((k:Int)+(m:Int))));go_in;go_wp2_with fail;go_quiet (first|(go_at_call 161;exact Calls.quiet_of_same (qj _)));go_wp2;have f:(0:Int)<=(k:Int):=by omega
 have g:(k:Int)<=(k:Int)+(m:Int):=by omega
 have i:(k:Int)+(m:Int)<=(c:Int):=by omega
 have l:¬c=k:=by omega
 go_quiet (fail);go_wp2;go_ret;exact⟨congrArg (λz=>Ending.returned (Value.slice (some ⟨b,o+k,none⟩) z (c-k))) (Nat.add_sub_cancel_left k m),d,⟨a.os,a.tape,a.output,a.size,a.block⟩⟩
def QL (i A X:Nat) (c:A<2 ^ i) (h:A+2 ^ i*X<18446744073709551616):
  bits .or .i64 (wrap64 (A:Int)) (wrap64 ((2 ^ i*X:Nat):Int))=wrap64 ((A+2 ^ i*X:Nat):Int):=by
 have q:∀z:Nat,z<18446744073709551616->(BitVec.ofInt 64 (wrap64 (z:Int))).toNat=z:=by
  intro z d;rw [BitVec.toNat_ofInt];unfold wrap64;omega
 have a:A<18446744073709551616:=by omega
 have b:2 ^ i*X<18446744073709551616:=by omega
 show IntKind.i64.wrap ((BitVec.ofInt 64 (wrap64 (A:Int)) |||BitVec.ofInt 64 (wrap64 ((2 ^ i*X:Nat):Int))).toNat:Int)=_;rw [BitVec.toNat_or,q A a,q _ b,Nat.or_comm,<-Nat.two_pow_add_eq_or_of_lt c X,Nat.add_comm,IntKind.wrap_i64];unfold wrap64;rfl
def wX (a:k<l.length) (b:Bytes l):le (l.take (k+1))=le (l.take k)+2 ^ (8*k)*(l.getD k 0).toNat:=by
 rw [List.take_succ_eq_append_getElem a,rX];have:(l.take k).length=k:=by simp;omega
 rw [this];simp [le,List.getD,a]
def part (l:List Int) (k m:Nat):List Int:=(l.drop k).take m
def eD {m:Nat} (h:k+m<=l.length):(part l k m).length=m:=by simp [part];omega
def db (h:Bytes l) (k m:Nat):Bytes (part l k m):=λx a=>h x (List.mem_of_mem_drop (List.mem_of_mem_take a))
def ri {m:Nat} (hi:i<m):(part l k m).getD i 0=l.getD (k+i) 0:=by simp [part,List.getD,hi]
structure Rd (w:World) (p b o c k:Nat) (l:List Int):Prop where
 rd:sF w p b o l.length c k
 ne:b≠p
 src:∀i,i<l.length->w.cell? ⟨b,o+i,none⟩=some (.int .u8 (l.getD i 0))
 bytes:Bytes l
 small:l.length<=1000000
 cap:l.length<=c
 JW:c<=9223372036854775807
 old:0<l.length->b<w.heap.size
def Rd.ak {b o e:Nat} (h:Rd w p b o c k l) (f:sF w' p b o l.length c e) (d:ad (λj=>j=p) w w'):Rd w' p b o c e l:=
   ⟨f,h.ne,λi hi=>by
  exact(World.cell?_of_block (w:=w) (a:=⟨b,o+i,none⟩) (d.block b (h.old (by omega)) h.ne)).trans (h.src i hi),h.bytes,h.small,h.cap,h.JW,λh0=>wu (h.old h0) d.size⟩
def Rd.tM {b o:Nat} (h:Rd w p b o c k l) (a:bW w w'):Rd w' p b o c k l:=by
 exact⟨(a.block p ((oF.1 h.rd).1)).trans h.rd,h.ne,λi hi=>cell_later a (h.src i hi),h.bytes,h.small,h.cap,h.JW,λh0=>wu (h.old h0) a.size⟩
def mU (p b o c k m:Nat) (l:List Int) (w:World) (h:Rd w p b o c k l) (s:k+m<=l.length) (rU:k<c) (A:m<=8):
  Calls prog 163 #[pQ p,iV (m:Int)] w λe w'=>e= .returned (iV (wrap64 ((le (part l k m):Nat):Int)))/\Rd w' p b o c (k+m) l/\ad (λj=>j=p) w w':=by
 have t:=ul p b o l.length c k m w h.rd s h.cap rU h.small h.JW;have H:=yh h;clear h;go_in;go_wp2_with fail;refine j8 t λw1 cI bo=>?_;have g:=H.o.ak cI bo;have H1:=yh (aQ g bo);have tP:=eD s;clear t cI bo g;go_wp2;go_loopw [5,12] (λr i wr=>∃j:Nat,j<=m/\i=iV j/\wr=w1/\r=iV (wrap64 ((le ((part l k m).take j):Nat):Int))) (λ_ i _=>m-(intOf i).toNat);case atStart=>exact⟨0,iq _,rfl,rfl,by simp [le,wrap64]⟩
 case round=>
  obtain⟨j,z,rfl,rfl,rfl⟩:=hrel;by_cases aS:j<m
  .have cH:(j:Int)<(m:Int):=(by omega);have q:=H1.o.1.src (k+j) (by omega);rw [<-ri (l:=l) (k:=k) aS,<-Nat.add_assoc] at q;obtain⟨x,v,dj⟩:∃x:Nat,(part l k m).getD j 0=(x:Int)/\x<256:=by
    have:=db H1.o.1.bytes k m (part l k m)[j] (List.getElem_mem (by omega));refine⟨((part l k m).getD j 0).toNat,?_,?_⟩<;> simp [List.getD,tP,aS] <;> omega
   have fP:=wX (l:=part l k m) (k:=j) (by omega) (db H1.o.1.bytes k m);have n:le ((part l k m).take j)<2 ^ (8*j):=by
    have:=ld (l:=(part l k m).take j) (λy f=>db H1.o.1.bytes k m y (List.mem_of_mem_take f));have e:((part l k m).take j).length=j:=(by simp;omega);rwa [e] at this
   have d:le ((part l k m).take (j+1))<18446744073709551616:=by
    have:=ld (l:=(part l k m).take (j+1)) (λy f=>db H1.o.1.bytes k m y (List.mem_of_mem_take f));have e:((part l k m).take (j+1)).length=j+1:=(by simp;omega);rw [e] at this;exact wu this (by have:=Nat.pow_le_pow_right (show 0<2 by omega) (show 8*(j+1)<=64 by omega);simpa using this)
   rw [v] at q fP;simp only [t7] at fP;rw [fP] at d;have IU:=QL (8*j) _ x n d;rw [<-fP] at IU;have SZ:((x:Int)*2 ^ (8*j))=((2 ^ (8*j)*x:Nat):Int):=(by rw [Int.natCast_mul,Int.natCast_pow,Int.mul_comm];rfl);have Cr:((2 ^ (8*j)*x:Nat):Int)=2 ^ (8*j)*(x:Int):=(by rw [Int.natCast_mul,Int.natCast_pow];rfl);rw [Cr] at IU;have a:=yh IU;clear n d fP IU Cr;go_wp2;go_roundw;case rel=>exact⟨j+1,by omega,by go_num,trivial,by rw [a.o]⟩
   case measure=>simp [intOf];omega
  .have cH:¬(j:Int)<(m:Int):=(by omega);have u:(part l k m).take j=part l k m:=wl (by omega);rw [u] at*;go_wp2;go_ret;exact⟨rfl,H1.o⟩
def rj (l:List Int):Prop:=∀x∈l,x=0
def Nd (l:List Int) (e:Ending):Prop:=∃x,e= .returned (.bool x)/\(x=true↔rj l)
def yx (b o n c:Nat) (l:List Int) (w:World) (t:l.length=n) (v:n<=1000000) (m:∀i,i<n->w.cell? ⟨b,o+i,none⟩=some (.int .u8 (l.getD i 0))):
  Calls prog 187 #[.slice (some (aD b o)) n c] w λe w'=>Nd l e/\w'=w:=by
 have q:=yh m;clear m;go_in;go_wp2;go_loopw [7] (λi wr=>∃k:Nat,k<=n/\i=iV k/\wr=w/\∀j,j<k->l.getD j 0=0) (λi _=>n-(intOf i).toNat);case atStart=>exact⟨0,iq _,rfl,rfl,λj f=>by omega⟩
 case round=>
  obtain⟨k,u,rfl,rfl,p⟩:=hrel;have g:=yh p;clear p;by_cases aS:k<n
  .have cH:(k:Int)<(n:Int):=(by omega);have s:=q.o k aS;by_cases a:l.getD k 0=0
   .have r:=yh a;rw [a] at s;clear a;go_wp2;go_roundw;case rel=>
     refine⟨k+1,by omega,by go_num,trivial,λj f=>?_⟩;by_cases e:j=k
     .rw [e];exact r.o
     .exact g.o j (by omega)
    case measure=>simp [intOf];omega
   .have O3:(l.getD k 0 != 0)=true:=(by rw [rO];exact a);have d:Yh (¬rj l):=λh=>absurd (h (l.getD k 0) (by simp [List.getD,t,aS])) a;generalize l.getD k 0=X at*;clear a;go_wp2;go_ret;exact⟨⟨_,rfl,⟨(λh=>by cases h),λh=>absurd h d.o⟩⟩,rfl⟩
  .have cH:¬(k:Int)<(n:Int):=(by omega);have d:Yh (rj l):=λx a=>by
    obtain⟨j,f,e⟩:=List.mem_iff_getElem.1 a;have:=g.o j (by omega);rw [<-e];simpa [List.getD,f] using this
   go_wp2;go_ret;exact⟨⟨_,rfl,⟨λ_=>d.o,λ_=>rfl⟩⟩,rfl⟩
def Rd.part {b o:Nat} (h:Rd w p b o c k l) {q m:Nat} (a:q+m<=l.length):∀i,i<m->w.cell? ⟨b,o+q+i,none⟩=some (.int .u8 ((part l q m).getD i 0)):=λi hi=>by
 rw [ri hi,Nat.add_assoc];exact h.src (q+i) (by omega)
def yy (p b o c k m:Nat) (l:List Int) (w:World) (h:Rd w p b o c k l) (g:k+m<=l.length) (rU:k<c) (q:rj (part l k m)):
  Calls prog 164 #[pQ p,iV ((k+m:Nat):Int)] w λe w'=>e= .returned (.tuple #[])/\Rd w' p b o c (k+m) l/\ad (λj=>j=p) w w':=by
 have r:=bY h.rd;have i:=ul p b o l.length c k m w h.rd g h.cap rU h.small h.JW;have s:((k+m:Nat):Int)-(k:Int)=(m:Int):=by omega
 have Lp:(m:Int)<=1000000:=by have:=h.small;omega
 generalize t:k+m=N at*;go_in;go_wp2_with fail;refine j8 i λw1 cI bo=>?_;have d:=h.ak cI bo;have f:=yx b (o+k) m (c-k) (part l k m) w1 (eD (by omega)) (by omega) (d.part (by omega));have H1:=(aQ d bo);go_wp2_with fail;refine f.mono ?_;rintro e u ⟨⟨x,rfl,n⟩,a⟩;have fJ:=a.symm;subst fJ;have O3:=n.2 q;subst O3;go_wp2_with fail;refine(qj _).mono ?_;rintro e v ⟨rfl,a⟩;have fJ:=a.symm;subst fJ;go_wp2
 go_end0
 exact⟨rfl,H1⟩
def JX (p b o c k m:Nat) (l:List Int) (w:World) (h:Rd w p b o c k l) (g:k+m<=l.length) (rU:k<c) (q:¬rj (part l k m)):
  Calls prog 164 #[pQ p,iV ((k+m:Nat):Int)] w λe w'=>e= .panicked lP/\ad (λj=>j=p) w w':=by
 have r:=bY h.rd;have i:=ul p b o l.length c k m w h.rd g h.cap rU h.small h.JW;have s:((k+m:Nat):Int)-(k:Int)=(m:Int):=by omega
 have Lp:(m:Int)<=1000000:=by have:=h.small;omega
 generalize t:k+m=N at*;go_in;go_wp2_with fail;refine j8 i λw1 cI bo=>?_;have d:=h.ak cI bo;have f:=yx b (o+k) m (c-k) (part l k m) w1 (eD (by omega)) (by omega) (d.part (by omega));go_wp2_with fail;refine f.mono ?_;rintro e u ⟨⟨x,rfl,n⟩,a⟩;have fJ:=a.symm;subst fJ;have O3:x=false:=by
  cases x with
  |false=>rfl
  |true=>exact absurd (n.1 rfl) q
 subst O3;go_wp2_with fail;refine(Ao _).mono ?_;rintro e v ⟨rfl,a⟩;have fJ:=a.symm;subst fJ;go_wp2;exact⟨rfl,rfl,(aQ d bo).2⟩
def lE {P:Program} {b:Array Oper} {Q:Exit->Act->World->Prop} {o:Oper} {rest:List Oper} {a:Act} (d:o.guard=none) (s x:Operand) (t:TypeId) (e:o.op= .call {callee:= .builtin .append,args:= #[s,x],argTypes:= #[t,t]}) (v u r:Value) (g:a.eval s=v) (i:a.eval x=u)
    (f:(Builtin.append_ #[t,t] o.type #[v,u]).run P w= .ok r w') (h:wpList P b Q rest (a.put o.dst r) w'):wpList P b Q (o :: rest) a w:=
 wpList_plain d λ_ c=>cf s x t e v u r g i f (c _ _ h)
section
section
variable {S:DS} {s f:Nat} {L:LG} {G:SG}
def l9 (h:S.Ok s) (e:f+1<s) (num:Int):(cw S s f num).2.Ok s/\∀j,f+2<=j->j<s->(cw S s f num).2.now j=S.now j:=by
 unfold cw;by_cases a:S.fuse=0
 .rw [aN a];exact⟨h,λ_ _ _=>rfl⟩
 .rw [aB a];by_cases c:(aW (S.now f) (S.now (f+1)) num []).2.2≠0
  .rw [aN c];exact⟨h,λ_ _ _=>rfl⟩
  .rw [aB c];have kD:=jk (S.now f) (S.now (f+1)) num [];have JA:=lz (S.now f) (S.now (f+1)) num [] (by omega);generalize aW (S.now f) (S.now (f+1)) num []=Y at*;rw [show (f:Int)+(Y.1:Int)=((f+Y.1:Nat):Int) by omega];by_cases d:(S.wr s ((f+Y.1:Nat):Int) 512 Y.2.1).1≠0
   .exact absurd (M3 (by omega) d).2 a
   .rw [aB d];have Fe:=ra h a (show f+Y.1<s by omega) JA;refine⟨oD Fe,λj g b=>?_⟩;rw [eW Fe b,ix a (by omega),aB (by omega)]
def vz (h:S.Ok s):(L.sync S s).2.Ok s/\(L.sync S s).2.life=S.life/\∀j,j<s->(L.sync S s).2.now j=S.now j:=by
 unfold LG.sync;split
 .exact⟨h,rfl,λ_ _=>rfl⟩
 .exact⟨oD h,ff _ _,λj a=>eW h a⟩
def CD (h:S.Ok s) (i:L.f+1<s):(L.trim S s).2.1.Ok s/\∀j,L.f+2<=j->j<s->(L.trim S s).2.1.now j=S.now j:=by
 obtain⟨a1,_,b⟩:=vz (L:=L) h;obtain⟨e,g⟩:=l9 a1 i ((L.ep:Int)*4294967296+(L.head:Int));unfold LG.trim;split
 .exact⟨a1,λj _ d=>b j d⟩
 .split
  .exact⟨a1,λj _ d=>b j d⟩
  .split
   .exact⟨e,λj c a=>(g j c a).trans (b j a)⟩
   .exact⟨e,λj c a=>(g j c a).trans (b j a)⟩
def Ne {E P:Nat} (h:S.Ok s) (d:1<=n) (k:f+2+n<=s) (g:l.length<=492):(jN S s f n E P i c l).2.Ok s/\∀j,f+2+n<=j->(jN S s f n E P i c l).2.now j=S.now j:=by
 have:=Nat.mod_lt P d;have a:(nZ E P i c l).length<=504:=by rw [xP];omega
 unfold jN;by_cases b:S.fuse=0
 .rw [aN b];exact⟨h,λ_ _=>rfl⟩
 .rw [aB b];exact⟨ra h b (by omega) (u7 (bT h (f+2+P%n) (by omega)) a).2,λj e=>by rw [ix b (by omega),aB (by omega)]⟩
def sG (h:S.Ok s) (o:1<=L.n) (p:L.f+2+L.n<=s) {d:List Int}:∀k,(ei L S s d k).2.Ok s/\∀j,L.f+2+L.n<=j->(ei L S s d k).2.now j=S.now j
 |0=>⟨h,λ_ _=>rfl⟩
 |k+1=>by
  obtain⟨b,g⟩:=sG h o p (d:=d) k;by_cases e:(ei L S s d k).1=0
  .have a:ei L S s d (k+1)=jN (ei L S s d k).2 s L.f L.n L.ep (L.head+k) k (bI d.length) (partOf d k):=kF e;have t:(partOf d k).length<=492:=(by unfold partOf;rw [Iz];omega);obtain⟨q,r⟩:=Ne (n:=L.n) (f:=L.f) (E:=L.ep) (P:=L.head+k) (i:=k) (c:=bI d.length) (l:=partOf d k) b o p t;rw [a];exact⟨q,λj m=>(r j m).trans (g j m)⟩
  .have a:ei L S s d (k+1)=ei L S s d k:=ic e (k+1) (by omega);rw [a];exact⟨b,g⟩
def Fk (h:S.Ok s) (a:1<=L.n) (b:L.f+2+L.n<=s) (d:List Int):(L.append S s d).2.1.Ok s/\∀j,L.f+2+L.n<=j->(L.append S s d).2.1.now j=S.now j:=by
 unfold LG.append;split
 .exact⟨h,λ_ _=>rfl⟩
 .split <;> exact sG h a b _
end
section
variable {w w':World} {F X:Nat->Prop} {r s k kl t hm:Nat} {S:DS} {G:SG} {pv nv:Value} {ps:List (Nat×List Int)}
def Ap {S:DS} {f:Nat} (a:S'.now f=S.now f) (b:S'.now (f+1)=S.now (f+1)):S'.num f=S.num f:=by unfold DS.num;rw [a,b]
end
end
section
section
variable {w w' w5 w6 w7:World} {F F5 X:Nat->Prop} {r s k kl t hm ws g2 gw:Nat} {S S5:DS} {G G5:SG} {T:TG} {pv nv tv lv:Value} {ps us:List (Nat×List Int)} {ns:CM} {xs ys:List Value}
def Fl {L:LG} {S:DS} {s:Nat} (h:S.fL):(L.trim S s).2.1.fL:=by
 have a:=qU h L s;have b:=a.cw s L.f ((L.ep:Int)*4294967296+(L.head:Int));unfold LG.trim;split
 .exact a
 .split
  .exact a
  .split <;> exact b
def CE {G:SG} {S:DS} {s:Nat} (h:S.fL) (d:∀q∈G.ov,Bytes q.2):(G.check S s).2.1.fL:=by
 have a:=qU h G.L s;have b:=mP a s G.y.home d;have c:=Fl (L:=G.L) (s:=s) b;unfold SG.check;split
 .exact a
 .split
  .exact b
  .split <;> exact c
end
section
variable {w w' w1 w2:World} {F F' X X':Nat->Prop} {r s k kl t hm:Nat} {S:DS} {G:SG} {T:TG} {pv nv tv:Value} {ps us:List (Nat×List Int)}
end
end
section
section
variable {S:DS} {s t i:Nat} {ls:List LG} {L:LG} {G:SG}
def yz (L:LG) (S:DS) (s:Nat):(L.trim S s).2.1.life=S.life/\(L.trim S s).2.2.life=L.life:=by
 have a:(L.sync S s).2.life=S.life:=by
  unfold LG.sync;split
  .rfl
  .exact ff _ _
 unfold LG.trim;split
 .exact⟨a,rfl⟩
 .split
  .exact⟨a,rfl⟩
  .split
   .exact⟨(fo _ _ _ _).trans a,rfl⟩
   .exact⟨(fo _ _ _ _).trans a,rfl⟩
def Nf (dw:S.Ok s) (e:L.Ok s) (k:L.begun=true) (p:L.life=S.life) (r:S.num L.f<=L.ep*4294967296+L.tail) (b:(L.trim S s).2.1.fuse≠0):(L.trim S s).2.2.Fit (L.trim S s).2.1:=by
 obtain⟨t,oI,cC⟩:=tO e.s e.n1 e.th;unfold LG.trim at b⊢;by_cases a:(L.sync S s).1≠0
 .rw [aN a] at b;exfalso;apply b;unfold LG.sync at a⊢;by_cases d:L.aX S≠0
  .rw [aN d];show S.fuse=0;unfold LG.aX at d;cases hd:L.dead S
   .rw [hd,k] at d;simp at d
   .unfold LG.dead at hd;rw [p] at hd;simpa using hd
  .rw [aB d] at a⊢;obtain⟨i,j,_⟩:=jF a;rw [i];exact j
 .rw [aB a] at b⊢;have d:L.aX S=0:=by
   unfold LG.sync at a;by_cases c:L.aX S=0
   .exact c
   .rw [aN c] at a;exact absurd (Decidable.of_not_not a) c
  have l:(L.sync S s)=S.fl s:=by unfold LG.sync;rw [aB (by omega)]
  rw [l] at a b⊢;have mH:(S.fl s).2.num L.f=S.num L.f:=sD dw (by omega);have JY:=oD (s:=s) dw;by_cases m:L.tail=L.head
  .rw [aN m];refine⟨λ_=>⟨by rw [(gS (Decidable.of_not_not a))];exact iq _,by rw [mH];exact r⟩,λc=>by rw [k] at c;cases c⟩
  .rw [aB m] at b⊢;have o:((L.ep:Int)*4294967296+(L.head:Int))=((L.ep*4294967296+L.head:Nat):Int):=(by omega);rw [o] at b⊢;have q:=e.ep;have D0:=e.hi;obtain⟨N,n⟩:=cF (L.ep*4294967296+L.head);have g:(S.fl s).2.num L.f<N:=(by rw [mH,n];omega);rw [<-n] at b⊢;by_cases h0:(cw (S.fl s).2 s L.f (N:Int)).1≠0
   .rw [aN h0] at b;exact absurd (kL (by omega) (iy (bT JY L.f (by omega)) (bT JY (L.f+1) (by omega)) (N:=N) (by omega) g) h0).1 b
   .rw [aB h0];obtain⟨i,j⟩:=og (s:=s) (f:=L.f) (N:=N) JY (by omega) (by omega) (by omega) g (Decidable.of_not_not h0);refine⟨λ_=>⟨by rw [j];exact iq _,?_⟩,λc=>by rw [show ({L with tail:=L.head}:LG).begun=L.begun from rfl,k] at c;cases c⟩;show (cw (S.fl s).2 s L.f (N:Int)).2.num L.f<=L.ep*4294967296+L.head;rw [i];omega
def V.Inv.check (h:V.Inv S s ls t) (hi:ls[i]? =some G.L) (w:G.L.begun=true) (k:∀q∈G.ov,G.y.home+q.1<s/\q.2.length=512/\Bytes q.2) (C:G.ov.length<=2048) (XE:G.L.f+2+G.L.n<=G.y.home):V.Inv (G.check S s).2.1 s (ls.set i (G.check S s).2.2.L) t:=by
 have b:=(h.at hi).1;by_cases m:G.L.aX S=0
 .obtain⟨hd,_⟩:=kM m;obtain⟨d,x⟩:=mQ hd;have H:=b.s;have oI:=b.n1;obtain⟨a1,a2,r⟩:=vz (L:=G.L) h.ok;obtain⟨E,g,j,A,u⟩:=fd (h0:=G.y.home) (ms:=G.ov) a1 (λq a=>⟨(k q a).1,(k q a).2.1⟩);obtain⟨v,F⟩:=CD (L:=G.L) j (by omega);have jS:=CE (s:=s) h.jl (λq a=>(k q a).2.2);have XF:=Hh b (ax (G.L.sync S s).2 s G.y.home G.ov).2;have JZ:=yz G.L (ax (G.L.sync S s).2 s G.y.home G.ov).2 s;have I:=h.sync hi;have QM:G.L.sync S s=S.fl s:=by unfold LG.sync;rw [aB (by omega)]
  have nj:(G.L.sync S s).1=0:=by
   rw [QM];apply Decidable.byContradiction;intro o;exact x (jF o).2.1
  have l:(G.L.sync S s).2.puts= []:=by rw [QM] at nj⊢;exact gS nj
  have VF:=eZ (G.L.sync S s).2 s G.y.home G.ov;rw [l] at VF;have D:=vt G.L (ax (G.L.sync S s).2 s G.y.home G.ov).2 s;have mH:(ax (G.L.sync S s).2 s G.y.home G.ov).2.num G.L.f<=G.L.ep*4294967296+G.L.tail:=by
   rw [Ap (S:=S) ((u _ (λq a e=>by omega)).trans (r _ (by omega))) ((u _ (λq a e=>by omega)).trans (r _ (by omega)))];exact((h.al G.L (RA hi) d x).1 w).2
  have Se:=Nf (S:=(ax (G.L.sync S s).2 s G.y.home G.ov).2) j b w (by rw [g,a2];exact d) mH;unfold SG.check at jS⊢;rw [aB (λo=>o nj)] at jS⊢;generalize G.L.sync S s=Z at*;generalize ax Z.2 s G.y.home G.ov=Y at*;by_cases p:Y.1≠0
  .rw [aN p] at jS⊢;refine h.on hi d j jS (g.trans a2) ?_ b rfl (λc=>absurd (A p) c);show Y.2.puts.length<=6000;simp at VF;omega
  .rw [aB p] at jS⊢;have My:(G.L.trim Y.2 s).2.1.puts.length<=6000:=(by simp at VF;omega);by_cases z:(G.L.trim Y.2 s).1≠0
   .rw [aN z] at jS⊢;exact h.on hi d v jS (JZ.1.trans (g.trans a2)) My XF.1 JZ.2 Se
   .rw [aB z] at jS⊢;exact h.on hi d v jS (JZ.1.trans (g.trans a2)) My XF.1 JZ.2 Se
 .have e:G.check S s=(G.L.aX S,S,G):=by
   unfold SG.check LG.sync;rw [aN m,aN m]
  rw [e];exact h.same hi
end
end
section
section
variable {S:DS} {s:Nat}
def vN {S:DS} (h:S.fuse= -1):S.iG.fuse= -1:=by
 unfold DS.iG;simp only;rw [aB (by omega)];exact h
def lF {S:DS} (h:S.fuse= -1) (s:Nat) (x:Int) (n:Nat) (l:List Int):(S.wr s x n l).2.fuse= -1:=by
 unfold DS.wr;split
 .exact h
 .split
  .exact h
  .split
   .exact h
   .exact vN h
def lG {S:DS} (h:S.fuse= -1) (s:Nat):(S.fl s).2.fuse= -1:=by
 unfold DS.fl;split
 .exact h
 .exact vN h
def jT {S:DS} (h:S.fuse= -1) {g:Nat->DS->Int×DS} (a:∀k T,T.fuse= -1->(g k T).2.fuse= -1):∀n,(bK S g n).2.fuse= -1
 |0=>h
 |n+1=>by
  unfold bK;split
  .exact jT h a n
  .exact a n _ (jT h a n)
def FQ {S:DS} (h:S.fuse= -1) (s f n:Nat):(dq S s f n).2.fuse= -1:=by
 have a:(bE S s f (n+2)).2.fuse= -1:=jT h (λk T b=>lF b _ _ _ _) _;unfold dq;split
 .exact a
 .exact lG a s
def sH {S:DS} (h:S.fuse= -1) (s f:Nat) (num:Int):(cw S s f num).2.fuse= -1:=by
 unfold cw;split
 .exact h
 .split
  .exact h
  .split
   .exact lF h _ _ _ _
   .exact lG (lF h _ _ _ _) _
def Dq {r:List Int} (c:l.length=512) (d:r.length=512) (a:1<=N) (b:N<9223372036854775808) (h:(ai l r).2.1<N):
    (ai (uH l r (aW l r (N:Int) []).1 (aW l r (N:Int) []).2.1).1 (uH l r (aW l r (N:Int) []).1 (aW l r (N:Int) []).2.1).2).2=(N, [],0):=by
 have e:(aW l r (N:Int) [])=if (ai l r).2.2.2=0/\(ai l r).1=0 then (1,bc (cG (r.getD 0 0) (r.getD 511 0)) (bj N ++ []),0) else (0,bc (cG (l.getD 0 0) (l.getD 511 0)) (bj N ++ []),0):=by
  unfold aW;rw [aB (by omega),aB (by omega),aB (by simp)];simp only;rw [aB (by omega),t7]
 rw [e];by_cases q:(ai l r).2.2.2=0/\(ai l r).1=0
 .rw [aN q];have:=qK (data:= []) c d b a (by simp) h (t:=cG (r.getD 0 0) (r.getD 511 0)) (by have:=fj (r.getD 0 0) (r.getD 511 0);omega) 1 (by rw [aN q]);simp only;rw [this]
 .rw [aB q];have:=qK (data:= []) c d b a (by simp) h (t:=cG (l.getD 0 0) (l.getD 511 0)) (by have:=fj (l.getD 0 0) (l.getD 511 0);omega) 0 (by rw [aB q]);simp only;rw [this]
def FR {S:DS} {s:Nat} (h:S.Ok s) (c:f+1<s) (b:1<=N) (g:N<9223372036854775808) (aS:S.num f<N) (h0:(cw S s f (N:Int)).1=0):(ai ((cw S s f (N:Int)).2.now f) ((cw S s f (N:Int)).2.now (f+1))).2=(N, [],0)/\∀j,j<s->j≠f->j≠f+1->(cw S s f (N:Int)).2.now j=S.now j:=by
 have d:=bT h f (by omega);have e:=bT h (f+1) c;have dw:=iy d e b aS;have a:=Dq d e b g aS;have kD:=jk (S.now f) (S.now (f+1)) (N:Int) [];have JA:=lz (S.now f) (S.now (f+1)) (N:Int) [] dw;unfold cw at*;split at h0
 .simp at h0
 .rename_i yq;rw [aB yq];rw [aB (by omega)] at h0⊢;generalize aW (S.now f) (S.now (f+1)) (N:Int) []=Y at*;rw [show (f:Int)+(Y.1:Int)=((f+Y.1:Nat):Int) by omega] at h0⊢;have dm:(S.wr s ((f+Y.1:Nat):Int) 512 Y.2.1).1=0:=by rw [n9 yq (by omega)]
  rw [aB (by omega)] at h0⊢;have Fe:=ra h yq (show f+Y.1<s by omega) JA;refine⟨?_,λj i l m=>?_⟩
  .rw [eW Fe (by omega),eW Fe c,ix yq (by omega),ix yq (by omega)];unfold uH at a;by_cases q:Y.1=0
   .rw [q] at a⊢;rw [aN (by omega),aB (by omega)];rw [aN rfl] at a;exact a
   .have k:Y.1=1:=(by omega);rw [k] at a⊢;rw [aB (by omega),aN rfl];rw [aB (by omega)] at a;exact a
  .rw [eW Fe i,ix yq (by omega),aB (by omega)]
def Dr:(bZ (zs 512)).2≠0\/(bZ (zs 512)).1.length<12:=by
 have a:dG (zs 512)= []:=by
  unfold dG;rw [show cM (zs 512)=0 from by unfold cM;rw [show (zs 512).getD 1 0=0 from rfl,show (zs 512).getD 2 0=0 from rfl];rfl];exact List.take_zero
 unfold bZ;rw [aB (by rw [bN];omega)];unfold fF;rw [a];split
 .left;show (30:Nat)≠0;omega
 .rename_i b h;right;split at h
  .cases h;show (0:Nat)<12;omega
  .cases h
def tN:(jM (zs 512)).d= []/\(jM (zs 512)).e=0:=by
 unfold jM;rw [aN Dr];exact⟨rfl,rfl⟩
def yO {R:Nat->PC}:∀k,(∀i,i<k->(R i).e=0)->jz R k=0
 |0,_=>rfl
 |k+1,h=>by
  show (if (R k).e<=1073741824 then max (jz R k) (R k).e else jz R k)=0;rw [h k (by omega),yO k (λi hi=>h i (by omega))];rfl
def N9 {S:DS} {s:Nat} (h:S.Ok s) (i:f+2+n<=s) (h0:(dq S s f n).1=0):∀j,j<n+2->(dq S s f n).2.now (f+j)=zs 512:=λj c=>by
 obtain⟨d,a,g,b⟩:=jR (f:=f) h (n:=n+2) (by omega) (n+2) (di _);unfold dq at*;by_cases e:(bE S s f (n+2)).1=0
 .rw [aB (by omega),eW a (by omega)];exact b e j c
 .rw [aN e] at h0;exact absurd h0 e
def DV (h:S.Ok s) (k:S.fuse= -1) {a b:Nat} (pA:a+2+b<=s) (aq:18<=b) (aG:b<=256):
    (cT S s a b).1=0/\(cT S s a b).2.fuse= -1/\bG (cT S s a b).2 a=(1,0,0)/\∀j,j<b->(cT S s a b).2.now (a+2+j)=zs 512:=by
 have Wq:cP S s (a:Int) (b:Int)=0:=by
  unfold cP;rw [aB (by omega),aB (by omega),aB (by omega),aB (by omega)]
 unfold cT;rw [aB (by omega)];simp only [t7];have dw:S.take.Ok s:=⟨h.len,h.lo,h.hi,h.puts,h.fuse⟩;obtain⟨t,c,o,p⟩:=lC (f:=a) (n:=b) dw pA;have kZ:=FQ (S:=S.take) k s a b;have h0:=Decidable.byContradiction (λe=>by have:=o e;omega);have m:=N9 dw pA h0;obtain⟨g,u⟩:=p h0;rw [aB (by omega)];have l:=iy (bT c a (by omega)) (bT c (a+1) (by omega)) (N:=4294967296) (by omega) (by show DS.num _ a<_;rw [g];omega);have DY:(cw (dq S.take s a b).2 s a 4294967296).2.fuse= -1:=sH kZ s a _;have d:(cw (dq S.take s a b).2 s a 4294967296).1=0:=Decidable.byContradiction (λe=>by have i:=(kL (num:=4294967296) (by omega) l e).1;rw [DY] at i;omega);obtain⟨w1,q⟩:=FR (s:=s) (f:=a) (N:=4294967296) c (by omega) (by omega) (by omega) (by rw [g];omega) d;refine⟨d,DY,?_,λj r=>?_⟩
 .unfold bG gQ;generalize ai ((cw (dq S.take s a b).2 s a 4294967296).2.now a) ((cw (dq S.take s a b).2 s a 4294967296).2.now (a+1))=X at*;have w1:=w1;rw [w1];decide
 .have:=q (a+2+j) (by omega) (by omega) (by omega);refine Eq.trans this ?_;rw [show a+2+j=a+(2+j) by omega];exact m (2+j) (by omega)
def Kq {a b:Nat} (k:S.Ok s) (n:S.fuse= -1) (pA:a+2+b<=s) (aq:18<=b) (aG:b<=256) (g:bG S a=(1,0,0)) (t:∀j,j<b->S.now (a+2+j)=zs 512):
    (bU S s a b).1=0/\(bU S s a b).2.fuse= -1/\(bU S s a b).2.life=wrap64 (S.life+1)/\(∀rs hd,dI (Rp (fI S a) b) (bG S a).1 (bG S a).2.1 rs hd->rs= []/\hd=0)/\iC S a b=1:=by
 have Wq:cP S s (a:Int) (b:Int)=0:=by
  unfold cP;rw [aB (by omega),aB (by omega),aB (by omega),aB (by omega)]
 have m:∀j,j<b->(fI S a j).e=0/\(fI S a j).d= []:=λj q=>by
  unfold fI;rw [t j q];exact⟨tN.2,tN.1⟩
 have r:iC S a b=1:=by
  unfold iC;rw [yO b (λi hi=>(m i hi).1),g];rfl
 have o:bU S s (a:Int) (b:Int)=S.take.fl s:=by
  unfold bU;rw [aB (by omega),t7,t7,aB (by rw [g];decide),aB (by omega)]
 rw [o];have f:=lG (S:=S.take) n s;refine⟨Decidable.byContradiction (λe=>by have:=(jF e).2.1;have:S.take.fuse= -1:=n;omega),f,ff _ _,λrs hd Pu=>?_,r⟩;rw [g] at Pu;cases rs with
 |nil=>exact⟨rfl,Pu⟩
 |cons x xs=>
  obtain⟨c,f,_⟩:=Pu;have l:=(f.2.2.1 0 (by have:=f.1;omega)).2.2.2.2.1;have p:Rp (fI S a) b (0+0)=fI S a 0:=by unfold Rp;rw [Nat.add_zero,Nat.zero_mod]
  rw [p,(m 0 (by omega)).2] at l;simp at l
end
end
section
section
variable {S S':DS} {G G':SG} {T:TG} {L:LG} {s N t f:Nat} {c:CM}
theorem Ng (h:S.fuse= -1) (s:Nat) (x:Int) (n:Nat) (l:List Int):(S.wr s x n l).2.fuse= -1:=lF h s x n l
theorem rk {h0:Nat}:∀{ms:CM} {S:DS},S.fuse= -1->(ax S s h0 ms).2.fuse= -1
 | [],_,h=>h
 |q :: qs,S,h=>by
  rw [ii];have h1:=Ng h s ((h0+q.1:Nat):Int) 512 q.2;split
  .exact h1
  .exact rk h1
theorem CF {d:List Int} (h:S.fuse= -1) (k:Nat):(ei L S s d k).2.fuse= -1:=
 jT h (λj T hT=>by
  unfold jN;split
  .exact hT
  .exact lF hT _ _ _ _) k
structure pf (S:DS) (s:Nat) (G:SG) (N:Nat):Prop where
 fu:S.fuse= -1
 iv:∃t:Nat,t<=N+4/\V.Inv S s [G.L] t
 al:G.L.life=S.life
 bg:G.L.begun=true
 ko:CM.Ok G.ov
 kb:∀q∈G.ov,q.1<G.y.blocks/\q.2.length=512/\Bytes q.2
 lh:G.L.f+2+G.L.n<=G.y.home
 hs:G.y.home+G.y.blocks<=s
 hb:G.y.blocks<=2048
 hd:G.L.head<=N
theorem pf.dead (h:pf S s G N):G.L.dead S=false:=by
 unfold LG.dead;rw [h.fu,h.al];simp
theorem pf.aX (h:pf S s G N):G.L.aX S=0:=by
 unfold LG.aX;rw [h.dead,h.bg];rfl
theorem pf.more (h:pf S s G N) {N':Nat} (hN:N<=N'):pf S s G N':=⟨h.fu,(by obtain⟨t,ht,hi⟩:=h.iv;exact⟨t,by omega,hi⟩),h.al,h.bg,h.ko,h.kb,h.lh,h.hs,h.hb,Nat.le_trans h.hd hN⟩
theorem pf.busy (h:pf S s G N) (b:Bool):pf S s {G with busy:=b} N:=⟨h.fu,h.iv,h.al,h.bg,h.ko,h.kb,h.lh,h.hs,h.hb,h.hd⟩
theorem pf.lok (h:pf S s G N):G.L.Ok s:=by
 obtain⟨t,_,h⟩:=h.iv;exact(h.ol G.L List.mem_cons_self).1
theorem pf.len (h:pf S s G N):G.ov.length<=2048:=by
 rcases CM.length_le (n:=G.y.blocks) h.ko (λq hq=>(h.kb q hq).1) 0 (λ_ _=>Nat.zero_le _) with h9|h9
 .have:=h.hb;omega
 .rw [h9];exact Nat.zero_le _
theorem pf.check (h:pf S s G N):(G.check S s).1=0/\pf (G.check S s).2.1 s (G.check S s).2.2 N/\(G.check S s).2.2.y=G.y/\(G.check S s).2.2.busy=G.busy/\(G.check S s).2.2.ov= []/\(G.check S s).2.2.L.tail=(G.check S s).2.2.L.head/\(G.check S s).2.2.L.n=G.L.n/\∀b,b<G.y.blocks->(G.check S s).2.2.block (G.check S s).2.1 b=G.block S b:=by
 obtain⟨t,ht4,hi⟩:=h.iv;have sX:=h.lok;have hu:=h.aX;have oI:=sX.n1;have ME:=sX.s;have XE:=h.lh;have Xa:=h.hs;have hM:∀q∈G.ov,G.y.home+q.1<s/\q.2.length=512/\Bytes q.2:=λq hq=>⟨by have:=(h.kb q hq).1;omega,(h.kb q hq).2⟩;have hI:=hi.check (i:=0) rfl h.bg hM h.len XE;have QM:G.L.sync S s=S.fl s:=by unfold LG.sync;rw [if_neg (λe=>e hu)]
 obtain⟨a1,a2,a3⟩:=vz (L:=G.L) hi.ok;have nj:(G.L.sync S s).1=0:=by
  rw [QM];apply Decidable.byContradiction;intro hz;have:=(jF hz).2.1;rw [h.fu] at this;cases this
 have afu:(G.L.sync S s).2.fuse= -1:=by rw [QM];exact lG h.fu s
 obtain⟨b1,b2,b3,b4,b5⟩:=fd (h0:=G.y.home) (ms:=G.ov) a1 (λq hq=>⟨(hM q hq).1,(hM q hq).2.1⟩);have bfu:=rk (s:=s) (h0:=G.y.home) (ms:=G.ov) afu;have bz:(ax (G.L.sync S s).2 s G.y.home G.ov).1=0:=by
  apply Decidable.byContradiction;intro hz;have:=b4 hz;rw [bfu] at this;cases this
 have vA:∀b,b<G.y.blocks->(ax (G.L.sync S s).2 s G.y.home G.ov).2.now (G.y.home+b)=G.block S b:=λb hb=>by
  unfold SG.block;cases hg:CM.get G.ov b with
  |some c=>exact yw a1 h.ko (λq hq=>⟨(hM q hq).1,(hM q hq).2.1⟩) bz hg
  |none=>
   rw [b5 _ (λq hq e=>by
    have e2:q.1=b:=(by omega);have h9:=CM.get_of_mem h.ko (k:=q.1) (c:=q.2) hq;rw [e2,hg] at h9;cases h9),a3 _ (by omega)]
   rfl
 have oX:G.L.Fit S:=hi.al G.L List.mem_cons_self h.al (by rw [h.fu];decide);have XG:=(oX.1 h.bg).2;obtain⟨c1,c2⟩:=CD (L:=G.L) b3 (by omega);have cl:=yz G.L (ax (G.L.sync S s).2 s G.y.home G.ov).2 s;have mH:(ax (G.L.sync S s).2 s G.y.home G.ov).2.num G.L.f<=G.L.ep*4294967296+G.L.tail:=by
  rw [Ap (S:=S) ((b5 _ (λq hq e=>by omega)).trans (a3 _ (by omega))) ((b5 _ (λq hq e=>by omega)).trans (a3 _ (by omega)))];exact XG
 have JZ:(ax (G.L.sync S s).2 s G.y.home G.ov).2.life=S.life:=b2.trans a2;unfold SG.check at hI⊢;rw [if_neg (λe=>e nj),if_neg (λe=>e bz)] at hI⊢;generalize (ax (G.L.sync S s).2 s G.y.home G.ov).2=Y at*;have hyu:G.L.aX Y=0:=by
  unfold LG.aX LG.dead;rw [bfu,JZ,h.al,h.bg];simp
 have hys:G.L.sync Y s=Y.fl s:=by unfold LG.sync;rw [if_neg (λe=>e hyu)]
 have hyf:(Y.fl s).1=0:=by
  apply Decidable.byContradiction;intro hz;have:=(jF hz).2.1;rw [bfu] at this;cases this
 have yfu:(Y.fl s).2.fuse= -1:=lG bfu s;have hT:(G.L.trim Y s).1=0/\(G.L.trim Y s).2.1.fuse= -1/\(G.L.trim Y s).2.2={G.L with tail:=G.L.head}:=by
  unfold LG.trim;rw [hys,if_neg (λe=>e hyf)];by_cases ht:G.L.tail=G.L.head
  .rw [if_pos ht];refine⟨rfl,yfu,?_⟩;rw [<-ht]
  .rw [if_neg ht];have JY:=oD (s:=s) b3;have hep:=sX.ep;have D0:=sX.hi;have cC:=sX.th;have eN:((G.L.ep:Int)*4294967296+(G.L.head:Int))=((G.L.ep*4294967296+G.L.head:Nat):Int):=(by omega);rw [eN];obtain⟨M,hM⟩:∃M,M=G.L.ep*4294967296+G.L.head:=⟨_,rfl⟩;have hlM:(Y.fl s).2.num G.L.f<M:=(by rw [sD b3 (by omega),hM];omega);rw [<-hM];have dfu:(cw (Y.fl s).2 s G.L.f (M:Int)).2.fuse= -1:=sH yfu s G.L.f _;have dz:(cw (Y.fl s).2 s G.L.f (M:Int)).1=0:=by
    apply Decidable.byContradiction;intro hz;have:=(kL (by omega) (iy (bT JY G.L.f (by omega)) (bT JY (G.L.f+1) (by omega)) (N:=M) (by omega) hlM) hz).1;rw [dfu] at this;cases this
   rw [if_neg (λe=>e dz)];exact⟨rfl,dfu,rfl⟩
 obtain⟨t1,t2,t3⟩:=hT;rw [if_neg (λe=>e t1)] at hI⊢;refine⟨rfl,⟨t2,⟨t,ht4,hI⟩,?_,?_,List.Pairwise.nil,(λq hq=>by cases hq),?_,Xa,h.hb,?_⟩,rfl,rfl,rfl,?_,?_,λb hb=>?_⟩
 .show (G.L.trim Y s).2.2.life=(G.L.trim Y s).2.1.life;rw [cl.2,cl.1,JZ,h.al]
 .show (G.L.trim Y s).2.2.begun=true;rw [t3];exact h.bg
 .show (G.L.trim Y s).2.2.f+2+(G.L.trim Y s).2.2.n<=G.y.home;rw [t3];exact XE
 .show (G.L.trim Y s).2.2.head<=N;rw [t3];exact h.hd
 .show (G.L.trim Y s).2.2.tail=(G.L.trim Y s).2.2.head;rw [t3]
 .show (G.L.trim Y s).2.2.n=G.L.n;rw [t3]
 .show (G.L.trim Y s).2.1.now (G.y.home+b)=_;rw [c2 _ (by omega) (by omega)];exact vA b hb
theorem pf.append (h:pf S s G N) (hN:N+17<=1073741824) (hc:CM.Ok c) (h1:1<=c.length) (rV:c.length<=16) (hk:∀q∈c,q.1<G.y.blocks/\q.2.length=512/\Bytes q.2) (JG:G.L.head+bI (bA c).length<=G.L.tail+G.L.n):
    (G.L.append S s (bA c)).1=0/\pf (G.L.append S s (bA c)).2.1 s {G with L:=(G.L.append S s (bA c)).2.2,ov:=CM.dM G.ov c} (N+17)/\∀b,b<G.y.blocks->({G with L:=(G.L.append S s (bA c)).2.2,ov:=CM.dM G.ov c}:SG).block (G.L.append S s (bA c)).2.1 b=(CM.get c b).getD (G.block S b):=by
 obtain⟨t,ht4,hi⟩:=h.iv;have sX:=h.lok;have hu:=h.aX;have oI:=sX.n1;have ME:=sX.s;have XE:=h.lh;have Xa:=h.hs;have hhd:=h.hd;have hl:=sh (λq hq=>(hk q hq).2.1);have Vm:bI (bA c).length<=17/\1<=bI (bA c).length:=by unfold bI;omega
 have hrf:G.L.gd S (bA c).length=0:=by
  unfold LG.gd;rw [if_neg (λe=>e hu),if_neg (by omega),if_neg (by omega),if_neg (by omega),if_neg (by omega)]
 have kfu:=CF (L:=G.L) (s:=s) (d:=bA c) h.fu (bI (bA c).length);obtain⟨k1,k2,k3,k4⟩:=oh (L:=G.L) (S:=S) (s:=s) (d:=bA c) (by omega) ME (bI (bA c).length);have kz:(ei G.L S s (bA c) (bI (bA c).length)).1=0:=by
  apply Decidable.byContradiction;intro hz;have:=k3 hz;rw [kfu] at this;cases this
 obtain⟨f1,f2⟩:=sG (L:=G.L) hi.ok (by omega) ME (d:=bA c) (bI (bA c).length);have JH:G.L.append S s (bA c)=(0,(ei G.L S s (bA c) (bI (bA c).length)).2,{G.L with head:=G.L.head+bI (bA c).length}):=by
  unfold LG.append;rw [if_neg (λe=>e hrf),if_neg (λe=>e kz)]
 have hI:=hi.append (i:=0) rfl (tu (λq hq=>(hk q hq).2.2)) (Fk hi.ok (by omega) ME _).1;rw [JH] at hI⊢;refine⟨rfl,⟨kfu,⟨t,by omega,hI⟩,h.al.trans k1.symm,h.bg,CM.t8 h.ko c,λq hq=>?_,XE,Xa,h.hb,?_⟩,λb hb=>?_⟩
 .have hg:=CM.get_of_mem (CM.t8 h.ko c) (k:=q.1) (c:=q.2) hq;rw [CM.uu h.ko q.1 hc] at hg;cases hx:CM.get c q.1 with
  |some d=>
   rw [hx] at hg;cases hg;exact hk _ (CM.get_mem hx)
  |none=>
   rw [hx] at hg;exact h.kb _ (CM.get_mem hg)
 .show G.L.head+bI (bA c).length<=N+17;omega
 .unfold SG.block;show (CM.get (CM.dM G.ov c) b).getD ((ei G.L S s (bA c) (bI (bA c).length)).2.now (G.y.home+b))=_;rw [CM.uu h.ko b hc,f2 _ (by omega)];cases CM.get c b <;> rfl
theorem pf.QN (h:pf S s G N) (hN:N+17<=1073741824) (hc:CM.Ok c) (h1:1<=c.length) (rV:c.length<=16) (hk:∀q∈c,q.1<G.y.blocks/\q.2.length=512/\Bytes q.2):
    (G.bi S s c).1=0/\pf (G.bi S s c).2.1 s (G.bi S s c).2.2 (N+17)/\(G.bi S s c).2.2.y=G.y/\∀b,b<G.y.blocks->(G.bi S s c).2.2.block (G.bi S s c).2.1 b=(CM.get c b).getD (G.block S b):=by
 have hu:=h.aX;have sX:=h.lok;have oI:=sX.n1;have yu:G.L.room S=((G.L.n:Int)-((G.L.head:Int)-(G.L.tail:Int)),0):=by
  unfold LG.room;rw [if_neg (λe=>e hu)]
 have hl:=sh (λq hq=>(hk q hq).2.1);have Vm:bI (bA c).length<=17:=by unfold bI;omega
 unfold SG.bi;rw [if_neg (by rw [yu];exact λe=>e rfl)];by_cases hr:G.roomy S (bA c).length=true
 .have hm:G.made S s (bA c).length=(0,S,G):=by unfold SG.made;rw [if_pos hr]
  have JG:G.L.head+bI (bA c).length<=G.L.tail+G.L.n:=by
   unfold SG.roomy at hr;rw [yu] at hr;have:=of_decide_eq_true hr;have:=sX.th;omega
  obtain⟨a1,a2,a3⟩:=h.append hN hc h1 rV hk JG;rw [hm,if_neg (λe=>e rfl),if_neg (λe=>e a1)];exact⟨rfl,a2,rfl,a3⟩
 .have hm:G.made S s (bA c).length=G.check S s:=by unfold SG.made;rw [if_neg hr]
  obtain⟨b1,b2,b3,b4,b5,b6,b7,b8⟩:=h.check;have aK:∀q∈c,q.1<(G.check S s).2.2.y.blocks/\q.2.length=512/\Bytes q.2:=by rw [b3];exact hk
  obtain⟨a1,a2,a3⟩:=b2.append hN hc h1 rV aK (by rw [b6,b7];omega);rw [hm,if_neg (λe=>e b1),if_neg (λe=>e a1)];refine⟨rfl,a2,b3,λb hb=>?_⟩;rw [<-b8 b hb];exact a3 b (by rw [b3];exact hb)
theorem yA (ho:CM.Ok T.puts) (b:Nat):(CM.get (T.news G S) b).getD (G.block S b)=T.bq G S b:=by
 unfold TG.news TG.bq;rw [CM.get_filter ho];cases hg:CM.get T.puts b with
 |none=>rfl
 |some c=>
  by_cases e:c=G.block S b
  .simp [Option.filter,e]
  .simp [Option.filter,e]
theorem pf.bi (h:pf S s G N) (hN:N+17<=1073741824) (h0:T.state G S=0) (ho:CM.Ok T.puts) (rV:T.puts.length<=16) (hk:∀q∈T.puts,q.1<G.y.blocks/\q.2.length=512/\Bytes q.2):
  ∃S' G',T.bi G S s=(0,S',{G' with busy:=false},T.close)/\pf S' s G' (N+17)/\G'.y=G.y/\∀b,b<G.y.blocks->G'.block S' b=T.bq G S b:=by
 unfold TG.bi;rw [if_neg (λe=>e h0)];by_cases hn:T.news G S= []
 .rw [if_pos hn];refine⟨S,G,rfl,h.more (by omega),rfl,λb _=>?_⟩;rw [<-yA ho b,hn];rfl
 .rw [if_neg hn];have hl:1<=(T.news G S).length:=by
   cases hx:T.news G S with
   |nil=>exact absurd hx hn
   |cons a l=>simp
  obtain⟨a1,a2,a3,a4⟩:=h.QN (c:=T.news G S) hN (CM.yo ho _) hl (Nat.le_trans (Ho T G S) rV) (λq hq=>hk q (Cw hq));rw [if_neg (λe=>e a1)];refine⟨_,_,rfl,a2,a3,λb hb=>?_⟩;rw [a4 b hb,yA ho b]
def Dv (S:DS) (s:Nat) (G:SG) (N:Nat):Prop:=pf S s G N\/(G.L.life<S.life/\∃t:Nat,t<=N+4/\V.Inv S s [G.L] t)
theorem Dv.more (h:Dv S s G N) {N':Nat} (hN:N<=N'):Dv S s G N':=by
 rcases h with h|⟨h1,t,ht,h2⟩
 .exact .inl (h.more hN)
 .exact .inr ⟨h1,t,by omega,h2⟩
theorem Dv.gone (h:G.L.life<S.life):G.L.dead S=true:=by
 unfold LG.dead;have:(S.life != G.L.life)=true:=by rw [bne_iff_ne];omega
 rw [this];simp
theorem Dv.alive (h:Dv S s G N) (hd:G.L.dead S=false):pf S s G N:=by
 rcases h with h|⟨h1,_⟩
 .exact h
 .rw [Dv.gone h1] at hd;cases hd
theorem Dv.take (h:Dv S s G N) (hN:N+17<=1073741824):Dv S.take s G (N+17)/\G.L.dead S.take=true:=by
 have key:∀t:Nat,t<=N+4->V.Inv S s [G.L] t->G.L.life<=S.life->Dv S.take s G (N+17)/\G.L.dead S.take=true:=λt ht hi hle=>by
  have h0:=hi.l0;have h1:=hi.lt;have hw:wrap64 (S.life+1)=S.life+1:=by unfold wrap64;omega
  have hl:S.take.life=S.life+1:=hw;have aS:G.L.life<S.take.life:=by rw [hl];omega
  exact⟨.inr ⟨aS,t+1,by omega,hi.take (by omega)⟩,Dv.gone aS⟩
 rcases h with h|⟨h1,t,ht,h2⟩
 .obtain⟨t,ht,hi⟩:=h.iv;exact key t ht hi (by rw [h.al];exact Int.le_refl _)
 .exact key t ht h2 (by omega)
end
end
section
def nu (x:Int) (k:Nat):Bool:=decide (x / 2 ^ k%2=1)
def jU (x:Int) (k:Nat):Int:=if nu x k=true then x-2 ^ k else x+2 ^ k
def cy (l:List Int) (i:Nat):Bool:=nu (l.getD (i / 8) 0) (i%8)
def bv (l:List Int) (i:Nat):List Int:=l.set (i / 8) (jU (l.getD (i / 8) 0) (i%8))
theorem sI {p:Nat->Nat->Bool} (h:((List.range 256).all λx=>(List.range 8).all λk=>p x k)=true) {x k:Nat} (hx:x<256) (hk:k<8):p x k=true:=by
 rw [List.all_eq_true] at h;have:=h x (List.mem_range.2 hx);rw [List.all_eq_true] at this;exact this k (List.mem_range.2 hk)
theorem ma (k:Nat):((2 ^ k:Nat):Int)=2 ^ k:=by simp
theorem fq (x k:Nat):nu (x:Int) k=decide (x / 2 ^ k%2=1):=by
 unfold nu;rw [<-ma,<-Int.natCast_ediv];apply decide_eq_decide.2;omega
def tB (x k:Nat):Nat:=if x / 2 ^ k%2=1 then x-2 ^ k else x+2 ^ k
theorem qk {x k:Nat} (hx:x<256) (hk:k<8):tB x k<256/\(x ^^^ 2 ^ k)=tB x k/\(x / 2 ^ k%2=1->2 ^ k<=x):=by
 have:=sI (p:=λx k=>decide (tB x k<256/\(x ^^^ 2 ^ k)=tB x k/\(x / 2 ^ k%2=1->2 ^ k<=x))) (by decide+kernel) hx hk;exact of_decide_eq_true this
theorem oj {x k:Nat} (hx:x<256) (hk:k<8):jU (x:Int) k=(tB x k:Int):=by
 have h:=(qk hx hk).2.2;unfold jU tB;rw [fq];by_cases h1:x / 2 ^ k%2=1
 .rw [if_pos (by simpa using h1),if_pos h1,<-ma];have:=h h1;omega
 .rw [if_neg (by simpa using h1),if_neg h1,<-ma];omega
theorem Nh {x k j:Nat} (hx:x<256) (hk:k<8) (hj:j<8):decide (tB x k / 2 ^ j%2=1)=if j=k then !decide (x / 2 ^ k%2=1) else decide (x / 2 ^ j%2=1):=by
 have:=sI (p:=λx k=>(List.range 8).all λj=>decide (tB x k / 2 ^ j%2=1) == if j=k then !decide (x / 2 ^ k%2=1) else decide (x / 2 ^ j%2=1)) (by decide+kernel) hx hk;rw [List.all_eq_true] at this;simpa using this j (List.mem_range.2 hj)
theorem qn {x:Int} (h:0<=x/\x<256):∃n:Nat,x=(n:Int)/\n<256:=⟨x.toNat,by omega,by omega⟩
theorem ij {l:List Int} (h:Bytes l) (i:Nat):0<=l.getD i 0/\l.getD i 0<256:=by
 by_cases hi:i<l.length
 .have e:l.getD i 0=l[i]:=by simp [List.getD,hi]
  rw [e];exact h _ (List.getElem_mem hi)
 .have e:l.getD i 0=0:=by simp [List.getD,List.getElem?_eq_none (Nat.le_of_not_lt hi)]
  rw [e];omega
theorem J0 {x:Int} {k:Nat} (h:0<=x/\x<256) (hk:k<8):0<=jU x k/\jU x k<256:=by
 obtain⟨n,rfl,hn⟩:=qn h;rw [oj hn hk];have:=(qk hn hk).1;omega
theorem Ni {x:Int} {k:Nat} (h:0<=x/\x<256) (hk:k<8):bits .xor .u8 x (2 ^ k)=jU x k:=by
 obtain⟨n,rfl,hn⟩:=qn h;have h2:2 ^ k<256:=by
  have:2 ^ k<=2 ^ 7:=Nat.pow_le_pow_right (by omega) (by omega);omega
 rw [oj hn hk,<-ma,u8_xor_nat _ _ hn h2,(qk hn hk).2.1]
theorem QO {x:Int} {k:Nat} (h:0<=x/\x<256):(bits .and .u8 (x / 2 ^ k) 1 == 1)=nu x k:=by
 obtain⟨n,rfl,hn⟩:=qn h;have h2:n / 2 ^ k<256:=Nat.lt_of_le_of_lt (Nat.div_le_self _ _) hn;have e:(n:Int) / 2 ^ k=((n / 2 ^ k:Nat):Int):=by rw [<-ma,<-Int.natCast_ediv]
 rw [fq,e,show (1:Int)=((1:Nat):Int) from rfl,u8_and_nat _ _ h2 (by omega),Nat.and_one_is_mod];rw [Bool.eq_iff_iff,beq_iff_eq,decide_eq_true_iff];omega
theorem Fm {x:Int} {k j:Nat} (h:0<=x/\x<256) (hk:k<8) (hj:j<8):nu (jU x k) j=if j=k then !nu x k else nu x j:=by
 obtain⟨n,rfl,hn⟩:=qn h;rw [oj hn hk,fq,fq,fq];exact Nh hn hk hj
section
variable {l l':List Int} {i j k n a:Nat}
theorem jm:(bv l i).length=l.length:=by unfold bv;rw [List.length_set]
theorem jb (h:Bytes l):Bytes (bv l i):=λx hx=>by
 unfold bv at hx;rcases List.mem_or_eq_of_mem_set hx with h1|h1
 .exact h x h1
 .rw [h1];exact J0 (ij h _) (by omega)
theorem Nj (x:Int) (hi:i<l.length) (j:Nat):(l.set i x).getD j 0=if j=i then x else l.getD j 0:=by
 by_cases e:j=i
 .subst e;simp [List.getD,hi]
 .simp only [List.getD];rw [List.getElem?_set_ne (λh=>e h.symm),if_neg e]
theorem tC (h:Bytes l) (hi:i<8*l.length):cy (bv l i) j=if j=i then !cy l i else cy l j:=by
 unfold cy bv;rw [Nj _ (by omega)];by_cases e:j / 8=i / 8
 .rw [if_pos e,Fm (ij h _) (by omega) (by omega)];by_cases e2:j=i
  .rw [if_pos e2,if_pos (by omega)]
  .rw [if_neg e2,if_neg (by omega),e]
 .rw [if_neg e,if_neg (λh=>e (by rw [h]))]
theorem CG {x:Nat} (hx:x<256):x=(List.range 8).foldr (λk s=>(if decide (x / 2 ^ k%2=1) then 2 ^ k else 0)+s) 0:=by
 have:=sI (p:=λx _=>decide (x=(List.range 8).foldr (λk s=>(if decide (x / 2 ^ k%2=1) then 2 ^ k else 0)+s) 0)) (by decide+kernel) hx (show 0<8 by omega);exact of_decide_eq_true this
theorem J1 {x y:Int} (hx:0<=x/\x<256) (hy:0<=y/\y<256) (h:∀k,k<8->nu x k=nu y k):x=y:=by
 obtain⟨n,rfl,hn⟩:=qn hx;obtain⟨m,rfl,hm⟩:=qn hy;have g:∀k,k<8->decide (n / 2 ^ k%2=1)=decide (m / 2 ^ k%2=1):=λk hk=>by
  have:=h k hk;rwa [fq,fq] at this
 rw [CG hn,CG hm];simp only [show List.range 8= [0,1,2,3,4,5,6,7] from rfl,List.foldr];rw [g 0 (by omega),g 1 (by omega),g 2 (by omega),g 3 (by omega),g 4 (by omega),g 5 (by omega),g 6 (by omega),g 7 (by omega)]
theorem sJ (h:Bytes l) (h':Bytes l') (hl:l.length=l'.length) (hb:∀i,i<8*l.length->cy l i=cy l' i):l=l':=by
 apply List.ext_getElem hl;intro j h1 h2;have e1:l.getD j 0=l[j]:=by simp [List.getD,h1]
 have e2:l'.getD j 0=l'[j]:=by simp [List.getD,h2]
 rw [<-e1,<-e2];refine J1 (ij h _) (ij h' _) (λk hk=>?_);have:=hb (8*j+k) (by omega);unfold cy at this;rwa [show (8*j+k) / 8=j by omega,show (8*j+k)%8=k by omega] at this
end
end
theorem QP (n j:Nat):(zs n).getD j 0=0:=by
 unfold zs;simp only [List.getD,List.getElem?_replicate];split <;> rfl
theorem Fn (k:Nat):nu 0 k=false:=by
 have:=fq 0 k;rw [show ((0:Nat):Int)=0 from rfl] at this;rw [this];simp
def nI:Nat->List Int
 |0=>zs 512
 |k+1=>bv (nI k) k
theorem oP:∀k,(nI k).length=512
 |0=>bN 512
 |k+1=>jm.trans (oP k)
theorem kw:∀k,Bytes (nI k)
 |0=>BZ 512
 |k+1=>jb (kw k)
theorem Aq:∀k,k<=4096->∀i,cy (nI k) i=decide (i<k)
 |0,_,i=>by
  show nu ((zs 512).getD (i / 8) 0) (i%8)=_;rw [QP,Fn];simp
 |k+1,hk,i=>by
  show cy (bv (nI k) k) i=_;rw [tC (kw k) (by rw [oP];omega),Aq k (by omega),Aq k (by omega)];by_cases e:i=k
  .subst e;simp
  .rw [if_neg e];apply decide_eq_decide.2;omega
def bX (l:List Int) (a:Nat):Nat->Option Nat
 |0=>none
 |n+1=>if cy l a=false then some a else bX l (a+1) n
theorem ik {l:List Int}:∀{n a b:Nat},bX l a n=some b->a<=b/\b<a+n/\cy l b=false/\∀i,a<=i->i<b->cy l i=true
 |0,a,b,h=>by cases h
 |n+1,a,b,h=>by
  unfold bX at h;split at h
  .rename_i h3;cases h;exact⟨Nat.le_refl _,by omega,h3,λi h1 h2=>by omega⟩
  .rename_i h3;obtain⟨h4,h5,h6,h7⟩:=ik h;refine⟨by omega,by omega,h6,λi h1 h2=>?_⟩;by_cases e:i=a
   .subst e;simpa using h3
   .exact h7 i (by omega) h2
theorem tD {l:List Int}:∀{k n a:Nat},(∀i,a<=i->i<a+k->cy l i=true)->bX l a (k+n)=bX l (a+k) n
 |0,n,a,_=>by rw [Nat.zero_add,Nat.add_zero]
 |k+1,n,a,h=>by
  rw [show k+1+n=(k+n)+1 by omega];show (if cy l a=false then some a else bX l (a+1) (k+n))=_;rw [if_neg (by rw [h a (by omega) (by omega)];decide),tD (λi h1 h2=>h i (by omega) (by omega))];congr 1;omega
abbrev iD (x:Int):List PanicEntry:= [{v:= .iface 39 (.int .i64 x),recovered:=false}]
theorem mc (w:World):Calls prog 62 #[.int .i64 0] w λe w'=>e= .returned (.tuple #[])/\w'=w:=by
 go_enter func62,ntmps62;go_wp2
 go_end0
 exact⟨rfl,rfl⟩
theorem sK (w:World) (x:Int) (hx:x≠0):Calls prog 62 #[.int .i64 x] w λe w'=>e= .panicked (iD x)/\w'=w:=by
 have d:(x != 0)=true:=by rw [bne_iff_ne];exact hx
 clear hx;go_enter func62,ntmps62;go_wp2;exact⟨rfl,rfl,rfl⟩
theorem CH (w:World) (x:Int):Calls prog 147 #[.bool false, .int .i64 x] w λe w'=>e= .returned (.tuple #[])/\w'=w:=by
 go_enter func147,ntmps147;go_wp2
 go_end0
 exact⟨rfl,rfl⟩
theorem vB (w:World) (x:Int):Calls prog 147 #[.bool true, .int .i64 x] w λe w'=>e= .panicked (iD x)/\w'=w:=by
 go_enter func147,ntmps147;go_wp2;exact⟨rfl,rfl,rfl⟩
theorem Fo (w:World) (a:Option Addr) (n c:Nat):Calls prog 174 #[.slice a n c, .int .i64 0] w λe w'=>e= .returned (.slice a n c)/\w'=w:=by
 have h1:=mc w;go_enter func174,ntmps174;go_wp2_with fail;refine h1.mono ?_;rintro e w1 ⟨rfl,hw⟩;have fJ:=hw.symm;subst fJ;clear h1 hw;go_wp2;go_ret;exact⟨rfl,rfl⟩
theorem Fp (w:World) (v:Value) (x:Int) (hx:x≠0):Calls prog 174 #[v, .int .i64 x] w λe w'=>e= .panicked (iD x)/\w'=w:=by
 have h1:=sK w x hx;go_enter func174,ntmps174;go_wp2_with fail;refine h1.mono ?_;rintro e w1 ⟨rfl,hw⟩;have fJ:=hw.symm;subst fJ;exact⟨rfl,rfl,rfl⟩
theorem XH (i:Nat):(i:Int).tdiv 8=((i / 8:Nat):Int):=by
 rw [Int.tdiv_eq_ediv_of_nonneg (by omega)];omega
theorem XI (i:Nat):(i:Int).tmod 8=((i%8:Nat):Int):=by
 rw [Int.tmod_eq_emod_of_nonneg (by omega)];omega
theorem qo {w:World} {E:TypeId} {g c:Nat} {l:List Int} (hb:w.heap[g]? =some (.cells (bs l).toArray E (0,0))) (hl:l.length=512) (ey:Bytes l) (i:Nat) (hi:i<4096):
  Calls prog 146 #[.slice (some ⟨g,0,none⟩) 512 c, .int .i64 (i:Int)] w λe w'=>e= .returned (.bool (cy l i))/\w'=w:=by
 have XJ:i / 8<512:=by omega
 have hc:w.cell? ⟨g,i / 8,none⟩=some (.int .u8 (l.getD (i / 8) 0)):=aa hb (by simp [bs,List.getD,hl,XJ]);have e1:=XH i;have e2:=XI i;have e3:=QO (k:=i%8) (ij ey (i / 8));have e4:wrap64 (((i / 8:Nat):Int))=((i / 8:Nat):Int):=by unfold wrap64;omega
 have e5:(0:Int)<=((i%8:Nat):Int):=by omega
 have e6:((i%8:Nat):Int)<=8:=by omega
 have e7:(((i / 8:Nat):Int))<512:=by omega
 have e8:(0:Int)<=((i / 8:Nat):Int):=by omega
 unfold cy;clear hb hl ey hi;generalize l.getD (i / 8) 0=x at*;obtain⟨a,ha⟩:∃a,a=i / 8:=⟨_,rfl⟩;obtain⟨k,hk⟩:∃k,k=i%8:=⟨_,rfl⟩;rw [<-ha] at hc e1 e4 e7 e8 XJ;rw [<-hk] at e2 e3 e5 e6;rw [<-hk];clear ha hk;go_enter func146,ntmps146;go_wp2;go_ret;exact⟨rfl,rfl⟩
theorem Ub (l:List Int) (j:Nat) (x:Int):(bs l).toArray.setIfInBounds j (.int .u8 x)=(bs (l.set j x)).toArray:=by
 simp [bs,List.map_set]
theorem sL {w:World} {E:TypeId} {g c:Nat} {l:List Int} (hb:w.heap[g]? =some (.cells (bs l).toArray E (0,0))) (hl:l.length=512) (ey:Bytes l) (i:Nat) (hi:i<4096):
  Calls prog 64 #[.slice (some ⟨g,0,none⟩) 512 c, .int .i64 (i:Int)] w λe w'=>e= .returned (.tuple #[])/\w'.heap[g]? =some (.cells (bs (bv l i)).toArray E (0,0))/\ad (λk=>k=g) w w':=by
 have XJ:i / 8<512:=by omega
 have hc:w.cell? ⟨g,i / 8,none⟩=some (.int .u8 (l.getD (i / 8) 0)):=aa hb (by simp [bs,List.getD,hl,XJ]);have hfr:=ae hb (i / 8);have e1:=XH i;have e2:=XI i;have e3:=Ni (k:=i%8) (ij ey (i / 8)) (by omega);have e4:wrap64 (((i / 8:Nat):Int))=((i / 8:Nat):Int):=by unfold wrap64;omega
 have e5:(0:Int)<=((i%8:Nat):Int):=by omega
 have e6:((i%8:Nat):Int)<=8:=by omega
 have e7:(((i / 8:Nat):Int))<512:=by omega
 have e8:(0:Int)<=((i / 8:Nat):Int):=by omega
 have e9:(2:Int) ^ (i%8)%256=2 ^ (i%8):=by
  have:2 ^ (i%8)<=2 ^ 7:=Nat.pow_le_pow_right (by omega) (by omega);rw [<-ma];generalize 2 ^ (i%8)=z at*;omega
 have HN:Yh ((w.setCell ⟨g,i / 8,none⟩ (.int .u8 (jU (l.getD (i / 8) 0) (i%8)))).heap[g]? =some (.cells (bs (bv l i)).toArray E (0,0))/\ad (λk=>k=g) w (w.setCell ⟨g,i / 8,none⟩ (.int .u8 (jU (l.getD (i / 8) 0) (i%8))))):=
    ⟨(heap_setCell_same _ _ _ _ _ _ hb).trans (by rw [Ub];rfl),ad.setCell (F:=λk=>k=g) w (p:=⟨g,i / 8,none⟩) rfl _⟩
 obtain⟨L,hL⟩:∃L,L=(bs (bv l i)).toArray:=⟨_,rfl⟩;rw [<-hL] at HN;rw [<-hL];clear hb hl ey hi hL;generalize l.getD (i / 8) 0=x at*;obtain⟨a,ha⟩:∃a,a=i / 8:=⟨_,rfl⟩;obtain⟨k,hk⟩:∃k,k=i%8:=⟨_,rfl⟩;rw [<-ha] at hc hfr e1 e4 e7 e8 XJ HN;rw [<-hk] at e2 e3 e5 e6 e9 HN;clear ha hk;go_enter func64,ntmps64
 go_region
 go_end0
 exact⟨rfl,HN.o.1,HN.o.2.trans (ad.drew (λ_=>False) _) (λ_ h=>h.elim)⟩
theorem Hu (w:World) (k:Nat) (hk:k<=4096):
  Calls prog 28 #[.int .i64 (k:Int)] w λe w'=>∃g,e= .returned (.slice (some ⟨g,0,none⟩) 512 512)/\w.heap.size<=g/\w'.heap[g]? =some (.cells (bs (nI k)).toArray 5 (0,0))/\Below w.heap.size w w':=by
 have QB:=run_make_row' (P:=prog) 64 5 (.int .u8 0) 1 underlying64 gU rfl .i64 .i64 512 (by omega) (by omega) w;rw [show ((512:Nat):Int)=512 from rfl] at QB;obtain⟨w1,bd⟩:∃w1,w1=w.alloc (.cells (madeCells #[.int .u8 0] 512) 5):=⟨_,rfl⟩;have lJ:w1.heap[w.heap.size]? =some (.cells (bs (nI 0)).toArray 5 (0,0)):=by
  have hr:ao w1 5 w.heap.size 512 (bs (zs 512)):=by
   rw [bd];exact Bd (World.ownsRow_lit (base:=w.heap.size) w (madeCells #[.int .u8 0] 512) 512 (Nat.le_refl _) (by unfold maxLen;omega) (by simp [madeCells]))
  exact hr.full (by rw [bs,List.length_map,bN])
 have aH:Below w.heap.size w w1:=by rw [bd];exact an _ _
 rw [<-bd] at QB;have H0:=yh (And.intro lJ aH);clear lJ aH bd;go_enter func28,ntmps28;go_wp2;go_loopw [7] (λiv wr=>∃j:Nat,j<=k/\iv= .int .i64 (j:Int)/\wr.heap[w.heap.size]? =some (.cells (bs (nI j)).toArray 5 (0,0))/\Below w.heap.size w wr) (λiv _=>k-(intOf iv).toNat);case atStart=>exact⟨0,Nat.zero_le _,rfl,H0.o.1,H0.o.2⟩
 case round=>
  obtain⟨j,hj,rfl,hb,hB⟩:=hrel;by_cases aS:j<k
  .have cH:(j:Int)<(k:Int):=(by omega);have h1:=sL (c:=512) hb (oP j) (kw j) j (by omega);have HB:=yh hB;clear hb hB;go_wp2_with fail;refine h1.mono ?_;rintro e w2 ⟨rfl,aG,aK⟩;have HN:Yh (w2.heap[w.heap.size]? =some (.cells (bs (nI (j+1))).toArray 5 (0,0))/\Below w.heap.size w w2):=⟨aG,HB.o.trans (aK.below (λq hq=>by omega) HB.o.size)⟩;clear h1 aG aK;go_wp2;go_roundw;case rel=>exact⟨j+1,by omega,by go_num,HN.o.1,HN.o.2⟩
   case measure=>simp [intOf];omega
  .obtain rfl:j=k:=(by omega);have cH:¬(j:Int)<(j:Int):=(by omega);have HN:=yh (And.intro hb hB);clear hb hB;go_wp2;go_ret;exact⟨w.heap.size,rfl,Nat.le_refl _,HN.o.1,HN.o.2⟩
section
structure pg where
 bm:Nat
 zero:Nat
 first:Nat
 bf:Nat
 no:Int
def dh (y:LY):pg:=⟨0,0,y.data,y.blocks-y.data,60⟩
def dX (y:LY):pg:=⟨1,1,1,y.nodes,61⟩
abbrev fe (k:pg):Value:= .agg #[.int .i64 (k.bm:Int), .int .i64 (k.zero:Int), .int .i64 (k.first:Int), .int .i64 ((k.first:Int)+(k.bf:Int)-1), .int .i64 k.no]
structure pg.Ok (k:pg):Prop where
 bm:k.bm<2
 lo:k.zero<=k.first
 hi:k.first-k.zero+k.bf<=4096
 z:k.zero<=1
def TG.CI (T:TG) (G:SG) (S:DS) (k:pg):Option Nat->Option Nat×Int×TG
 |none=>(none,k.no,T)
 |some b=>if (T.put G S k.bm (bv (T.bq G S k.bm) b)).1=0 then (some (b+k.zero),0,(T.put G S k.bm (bv (T.bq G S k.bm) b)).2) else (none,(T.put G S k.bm (bv (T.bq G S k.bm) b)).1,(T.put G S k.bm (bv (T.bq G S k.bm) b)).2)
def TG.dr (T:TG) (G:SG) (S:DS) (k:pg):Option Nat×Int×TG:=
 if T.refusal G S k.bm≠0 then (none,T.refusal G S k.bm,T) else T.CI G S k (bX (T.bq G S k.bm) (k.first-k.zero) k.bf)
def TG.cE (T:TG) (G:SG) (S:DS) (k:pg) (x:Int):Int×TG:=
 if T.state G S≠0 then (T.state G S,T) else
 if x<(k.first:Int)\/(k.first:Int)+k.bf-1<x then (11,T) else
 if T.refusal G S k.bm≠0 then (T.refusal G S k.bm,T) else
 if cy (T.bq G S k.bm) (x.toNat-k.zero)=false then (62,T) else T.put G S k.bm (bv (T.bq G S k.bm) (x.toNat-k.zero))
def TG.eU (T:TG) (G:SG) (S:DS) (e:Int):TG:=if e=0 then T else (T.aT G S e).2
structure CJ (y:LY):Prop where
 b2:2<=y.blocks
 bl:y.blocks<=2048
 dy:y.data<=y.blocks
 nd:y.nodes<=4096
structure TX (w:World) (F:Nat->Prop) (p s cR q l m t n:Nat) (S:DS) (G:SG) (T:TG):Prop where
 st:ip w F p s cR q l m S G
 tx:lU w F q l m t n G T
 jl:S.fL
 pu:S.puts.length<=6000
 yk:CJ G.y
abbrev cq (F:Nat->Prop) (t n:Nat):Nat->Prop:=λk=>F k\/k=t\/k=n
structure ar (w:World) (F:Nat->Prop) (a t n:Nat):Prop where
 b:w.heap[a]? =some (.cells #[.pointer (some ⟨t,0,none⟩)] 59 (0,0))
 nf:¬cq F t n a
def CK (x:Int) (v:Value) (e:Ending):Prop:=if x=0 then e= .returned v else e= .panicked (iD x)
section
variable {w w':World} {F:Nat->Prop} {p s cR q l m t n a:Nat} {S:DS} {G:SG} {T:TG}
theorem ar.lt (h:ar w F a t n):a<w.heap.size:=af h.b
theorem ar.ak (h:ar w F a t n) (hk:ad (cq F t n) w w'):ar w' F a t n:=⟨(hk.block a h.lt h.nf).trans h.b,h.nf⟩
theorem ar.later (h:ar w F a t n) (hb:Below w.heap.size w w'):ar w' F a t n:=⟨(hb.block a h.lt).trans h.b,h.nf⟩
theorem ar.c0 (h:ar w F a t n):w.cell? ⟨a,0,none⟩=some (.pointer (some ⟨t,0,none⟩)):=aa h.b (j:=0) rfl
theorem TX.later (h:TX w F p s cR q l m t n S G T) (hb:Below w.heap.size w w'):TX w' F p s cR q l m t n S G T:=⟨h.st.later hb,h.tx.later hb,h.jl,h.pu,h.yk⟩
theorem TX.asked {c':Nat} (h:TX w F p s cR q l m t n S G T) (hd:B.aj w' F p s S c') (hk:ad F w w'):TX w' F p s c' q l m t n S G T:=⟨h.st.asked hd hk,h.tx.asked hk,h.jl,h.pu,h.yk⟩
theorem TX.le {c':Nat} (h:TX w F p s cR q l m t n S G T) (hc:cR<=c'):TX w F p s c' q l m t n S G T:=
   ⟨⟨h.st.d.le hc,h.st.st,h.st.lp,h.st.ch,h.st.nq,h.st.nl,h.st.nm,h.st.ql,h.st.qm,h.st.lm,h.st.lk,h.st.bg,h.st.hs,h.st.kb⟩,h.tx,h.jl,h.pu,h.yk⟩
theorem TX.lt (h:TX w F p s cR q l m t n S G T):∀k,cq F t n k->k<w.heap.size:=λk hk=>by
 rcases hk with hk|rfl|rfl
 .exact h.st.d.lt k hk
 .exact af h.tx.tx
 .exact h.tx.ch.lt
def Uc (B:Nat) (F:Nat->Prop) (q l m t n:Nat):Prop:=(∀k,F k->k<B)/\q<B/\l<B/\m<B/\t<B/\n<B
theorem TX.low (h:TX w F p s cR q l m t n S G T):Uc w.heap.size F q l m t n:=⟨h.st.d.lt,h.st.st.lt,h.st.lp.lt,h.st.ch.lt,af h.tx.tx,h.tx.ch.lt⟩
theorem TX.side {B:Nat} {Z:Nat->Prop} (h:TX w F p s cR q l m t n S G T) (hb:Uc B F q l m t n) (hk:ad Z w w') (hz:∀k,Z k->B<=k):TX w' F p s cR q l m t n S G T:=by
 obtain⟨b1,b2,b3,b4,b5,b6⟩:=hb;have no:∀k,k<B->¬Z k:=λk h1 h2=>by have:=hz k h2;omega
 exact⟨⟨h.st.d.ak hk (λk hk=>no k (b1 k hk)),h.st.st.ak hk (no _ b2),h.st.lp.ak hk (no _ b3),h.st.ch.ak hk (no _ b4),h.st.nq,h.st.nl,h.st.nm,h.st.ql,h.st.qm,h.st.lm,h.st.lk,h.st.bg,h.st.hs,h.st.kb⟩,⟨(hk.block t (af h.tx.tx) (no _ b5)).trans h.tx.tx,h.tx.ch.ak hk (no _ b6),h.tx.nt,h.tx.nn,h.tx.tq,h.tx.tl,h.tx.tm,h.tx.tn,h.tx.nq,h.tx.nl,h.tx.nm,h.tx.kb⟩,h.jl,h.pu,h.yk⟩
theorem TX.qG {c':Nat} {T':TG} (h:TX w F p s cR q l m t n S G T) (h1:w'.heap[t]? =some (.cells (A9 q n T') 106 (0,0))) (h2:Ch w' n T'.puts) (h3:B.aj w' F p s S c') (hk:ad (cq F t n) w w') (hb:∀x∈T'.puts,x.1<G.y.blocks):TX w' F p s c' q l m t n S G T':=by
 have no:∀k,¬F k->k≠t->k≠n->¬cq F t n k:=λk a b c hx=>by
  rcases hx with hx|hx|hx
  .exact a hx
  .exact b hx
  .exact c hx
 exact⟨⟨h3,h.st.st.ak hk (no _ h.st.nq h.tx.tq.symm h.tx.nq.symm),h.st.lp.ak hk (no _ h.st.nl h.tx.tl.symm h.tx.nl.symm),h.st.ch.ak hk (no _ h.st.nm h.tx.tm.symm h.tx.nm.symm),h.st.nq,h.st.nl,h.st.nm,h.st.ql,h.st.qm,h.st.lm,h.st.lk,h.st.bg,h.st.hs,h.st.kb⟩,⟨h1,h2,h.tx.nt,h.tx.nn,h.tx.tq,h.tx.tl,h.tx.tm,h.tx.tn,h.tx.nq,h.tx.nl,h.tx.nm,hb⟩,h.jl,h.pu,h.yk⟩
theorem Ud {b:Int} {d:List Int} (hT:∀x∈T.puts,x.1<G.y.blocks):∀x∈(T.put G S b d).2.puts,x.1<G.y.blocks:=by
 unfold TG.put;split
 .exact hT
 .rename_i h0;obtain⟨_,_,_,r4,r5⟩:=mO (Decidable.of_not_not h0);split
  .exact hT
  .split
   .exact hT
   .split
    .exact hT
    .intro x hx;rcases CM.oG hx with rfl|hx
     .show b.toNat<G.y.blocks;omega
     .exact hT x hx
theorem TX.put {c':Nat} {b:Int} {d:List Int} {e:Ending} (h:TX w F p s cR q l m t n S G T) (hP:vm w w' F p s c' q t n S (T.put G S b d) e):TX w' F p s c' q l m t n S G (T.put G S b d).2/\ad (cq F t n) w w':=by
 obtain⟨_,h1,h2,h3,h4⟩:=hP;exact⟨h.qG h1 h2 h3 h4 (Ud h.tx.kb),h4⟩
theorem TX.bytes (h:TX w F p s cR q l m t n S G T) (b:Nat):Bytes (T.bq G S b):=by
 unfold TG.bq SG.block;cases hg:CM.get T.puts b with
 |some c=>exact(h.tx.ch.len _ (CM.get_mem hg)).2.2
 |none=>
  show Bytes ((CM.get G.ov b).getD _);cases VC:CM.get G.ov b with
  |some c=>exact(h.st.ch.len _ (CM.get_mem VC)).2.2
  |none=>exact h.jl.now _
theorem TX.len (h:TX w F p s cR q l m t n S G T) (b:Nat) (hb:b<G.y.blocks):(T.bq G S b).length=512:=vk h.st h.tx b hb
theorem TX.Ue (h:TX w F p s cR q l m t n S G T):S.puts.length+1<=4000000000000:=by have:=h.pu;omega
theorem Ar (h:TX w F p s cR q l m t n S G T) (hp:ar w F a t n) (k:pg) (h0:T.refusal G S k.bm=0):
  Calls prog 145 #[.pointer (some ⟨a,0,none⟩),fe k] w λe w'=>∃g,e= .returned (.slice (some ⟨g,0,none⟩) 512 512)/\w.heap.size<=g/\gA w' 113 g (T.bq G S k.bm)/\TX w' F p s (cR+1) q l m t n S G T/\ad F w w':=by
 obtain⟨w1,bd⟩:∃w1,w1=w.alloc (.cells #[.int .i64 (k.bm:Int), .int .i64 (k.zero:Int), .int .i64 (k.first:Int), .int .i64 ((k.first:Int)+(k.bf:Int)-1), .int .i64 k.no] 61):=⟨_,rfl⟩;have aH:Below w.heap.size w w1:=by rw [bd];exact an _ _
 have bw:w1.heap[w.heap.size]? =some (.cells #[.int .i64 (k.bm:Int), .int .i64 (k.zero:Int), .int .i64 (k.first:Int), .int .i64 ((k.first:Int)+(k.bf:Int)-1), .int .i64 k.no] 61 (0,0)):=by rw [bd];exact heap_alloc_new _ _
 have jV:Below w.heap.size w w1.drew:=ah aH;have c0:w1.drew.cell? ⟨a,0,none⟩=some (.pointer (some ⟨t,0,none⟩)):=(hp.later jV).c0;have c1:w1.drew.cell? ⟨w.heap.size,0,none⟩=some (.int .i64 (k.bm:Int)):=aa (w:=w1.drew) bw (j:=0) rfl;have h1:=(uk (h.later jV).st (h.later jV).tx (k.bm:Int) h.Ue).mono (λe w' hx=>by unfold qg at hx;rw [if_neg (λhh=>hh h0),Int.toNat_natCast] at hx;exact hx);have eR:w1.heap.size=w.heap.size+1:=by rw [bd,World.size_alloc]
 have HX:=yh (h.later jV);have HB:=yh jV;have HP:=yh (hp.later jV);have iH:=yh h.lt;have tW:¬F w.heap.size:=λhf=>by have:=h.st.d.lt _ hf;omega
 have CN:w1.drew.heap[w.heap.size]? =some (.cells #[.int .i64 (k.bm:Int), .int .i64 (k.zero:Int), .int .i64 (k.first:Int), .int .i64 ((k.first:Int)+(k.bf:Int)-1), .int .i64 k.no] 61 (0,0)):=bw;have mI:=yh CN;clear h hp aH jV bw CN h0;go_enter func145,ntmps145;go_wp2_with fail;rw [<-bd];clear bd;go_region_held3 (λw'=>w'.cell? ⟨a,0,none⟩=some (.pointer (some ⟨t,0,none⟩))/\w'.cell? ⟨w.heap.size,0,none⟩=some (.int .i64 (k.bm:Int)))
  (first|exact⟨c0,c1⟩|exact⟨om,Hv⟩)
  (first
   |(go_at_call 32;refine h1.mono ?_;rintro e w2 ⟨⟨g,rfl,hg,aA⟩,dS,aK⟩;have om:w2.cell? ⟨a,0,none⟩=some (.pointer (some ⟨t,0,none⟩)):=(HP.o.ak (aK.mono (λ_ h=> .inl h))).c0;have Hv:w2.cell? ⟨w.heap.size,0,none⟩=some (.int .i64 (k.bm:Int)):=aa ((aK.block _ (af mI.o) tW).trans mI.o) (j:=0) rfl)
   |(go_at_call 174;refine(Fo _ _ _ _).mono ?_;rintro e w3 ⟨rfl,kB⟩;have Nk:=kB.symm;clear kB;subst Nk))
 have HN:Yh (w.heap.size<=g/\gA w2 113 g (T.bq G S k.bm)/\TX w2 F p s (cR+1) q l m t n S G T/\ad F w w2):=⟨Nat.le_trans HB.o.size hg,aA,HX.o.asked dS aK,(ad.ag F HB.o).trans aK (λ_ h=> .inl h)⟩;clear h1 aA dS aK c0 c1 om Hv;go_wp2;go_ret;exact⟨g,rfl,HN.o⟩
end
end
section
abbrev iE (k:pg):Obj:= .cells #[.int .i64 (k.bm:Int), .int .i64 (k.zero:Int), .int .i64 (k.first:Int), .int .i64 ((k.first:Int)+(k.bf:Int)-1), .int .i64 k.no] 61
theorem Fq (w:World) (x:Int):Calls prog 62 #[.int .i64 x] w λe w'=>(if x=0 then e= .returned (.tuple #[]) else e= .panicked (iD x))/\w'=w:=by
 by_cases h:x=0
 .rw [h];exact(mc w).mono (λe w' hx=>⟨(if_pos rfl).mpr hx.1,hx.2⟩)
 .exact(sK w x h).mono (λe w' hx=>⟨(if_neg h).mpr hx.1,hx.2⟩)
section
variable {w w':World} {F:Nat->Prop} {p s cR q l m t n a:Nat} {S:DS} {G:SG} {T:TG}
theorem Src.Nl {E:TypeId} {g:Nat} {d:List Int} (hb:w.heap[g]? =some (.cells (bs d).toArray E (0,0))):Src w (some ⟨g,0,none⟩) d.length d:=
   ⟨rfl,(λh=>by cases h),λx hx i hi=>by
  cases hx;rw [aV,Nat.zero_add];exact aa hb (by simp [bs,List.getD,hi])⟩
theorem Hw (h:TX w F p s cR q l m t n S G T) (hp:ar w F a t n) (k:pg) (h0:T.refusal G S k.bm≠0):
  Calls prog 145 #[.pointer (some ⟨a,0,none⟩),fe k] w λe w'=>e= .panicked (iD (T.refusal G S k.bm))/\TX w' F p s (cR+1) q l m t n S G T/\ad F w w':=by
 obtain⟨w1,bd⟩:∃w1,w1=w.alloc (iE k):=⟨_,rfl⟩;have aH:Below w.heap.size w w1:=by rw [bd];exact an _ _
 have bw:w1.heap[w.heap.size]? =some (.cells #[.int .i64 (k.bm:Int), .int .i64 (k.zero:Int), .int .i64 (k.first:Int), .int .i64 ((k.first:Int)+(k.bf:Int)-1), .int .i64 k.no] 61 (0,0)):=by rw [bd];exact heap_alloc_new _ _
 have jV:Below w.heap.size w w1.drew:=ah aH;have c0:w1.drew.cell? ⟨a,0,none⟩=some (.pointer (some ⟨t,0,none⟩)):=(hp.later jV).c0;have c1:w1.drew.cell? ⟨w.heap.size,0,none⟩=some (.int .i64 (k.bm:Int)):=aa (w:=w1.drew) bw (j:=0) rfl;have h1:=(uk (h.later jV).st (h.later jV).tx (k.bm:Int) h.Ue).mono (λe w' hx=>by unfold qg at hx;rw [if_pos h0] at hx;exact hx);generalize T.refusal G S k.bm=R at*;have HX:=yh (h.later jV);have HB:=yh jV;have HP:=yh (hp.later jV);have tW:¬F w.heap.size:=λhf=>by have:=h.st.d.lt _ hf;omega
 have CN:w1.drew.heap[w.heap.size]? =some (.cells #[.int .i64 (k.bm:Int), .int .i64 (k.zero:Int), .int .i64 (k.first:Int), .int .i64 ((k.first:Int)+(k.bf:Int)-1), .int .i64 k.no] 61 (0,0)):=bw;have mI:=yh CN;have HR:=yh h0;unfold iE at bd;clear h hp aH jV bw CN h0;go_enter func145,ntmps145;go_wp2_with fail;rw [<-bd];clear bd;refine wp_region_held_drew (S:=(λw'=>w'.cell? ⟨a,0,none⟩=some (.pointer (some ⟨t,0,none⟩))/\w'.cell? ⟨w.heap.size,0,none⟩=some (.int .i64 (k.bm:Int)))) (by kernel_rfl) (⟨c0,c1⟩) (λaC=>?_);refine wpAnyH_take (i:=0) (oi:={dst:=some 5,op:=Op.move (Operand.tmp 0),type:=35,pos:= "stock.go:67",after:= #[],guard:=none}) (v:= .pointer (some ⟨a,0,none⟩)) rfl (by kernel_rfl) (by kernel_rfl) (by kernel_rfl) (λ_ _ _ h=>h) (Or.inl ⟨by rfl,?_⟩) (by assumption) ?_
 .intro w aw
  (try dsimp only at aw)
  go_simp
 try simp only [Act.put,List.setIfInBounds_toArray,List.set_cons_zero,List.set_cons_succ]
 refine wpAnyH_take (i:=1) (oi:={dst:=some 6,op:=Op.nilCheck (Operand.tmp 5),type:=0,pos:= "stock.go:67",after:= #[{on:=0,ground:=Ground.data}],guard:=none}) (v:= .pointer (some ⟨a,0,none⟩)) rfl (by kernel_rfl) (by kernel_rfl) (by kernel_rfl) (λ_ _ _ h=>h) (Or.inl ⟨by rfl,?_⟩) (by assumption) ?_
 .intro w aw
  (try dsimp only at aw)
  go_simp
 try simp only [Act.put,List.setIfInBounds_toArray,List.set_cons_zero,List.set_cons_succ]
 refine wpAnyH_take (i:=2) (oi:={dst:=some 7,op:=Op.fieldAddr 59 (Operand.tmp 6) 0,type:=0,pos:= "stock.go:67",after:= #[{on:=1,ground:=Ground.data}],guard:=none}) (v:= .pointer (some ⟨a,0,none⟩)) rfl (by kernel_rfl) (by kernel_rfl) (by kernel_rfl) (λ_ _ _ h=>h) (Or.inl ⟨by rfl,?_⟩) (by assumption) ?_
 .intro w aw
  (try dsimp only at aw)
  go_simp
 try simp only [Act.put,List.setIfInBounds_toArray,List.set_cons_zero,List.set_cons_succ]
 refine wpAnyH_take (i:=3) (oi:={dst:=some 8,op:=Op.load 57 (Operand.tmp 7),type:=57,pos:= "stock.go:67",after:= #[{on:=2,ground:=Ground.data}],guard:=none}) (v:= .pointer (some ⟨t,0,none⟩)) rfl (by kernel_rfl) (by kernel_rfl) (by kernel_rfl) (λ_ _ _ h=>h) (Or.inl ⟨by rfl,?_⟩) (by assumption) ?_
 .intro w aw
  (try dsimp only at aw)
  go_simp
 try simp only [Act.put,List.setIfInBounds_toArray,List.set_cons_zero,List.set_cons_succ]
 refine wpAnyH_take (i:=4) (oi:={dst:=some 9,op:=Op.fieldAddr 61 (Operand.tmp 3) 0,type:=0,pos:= "stock.go:67",after:= #[],guard:=none}) (v:= .pointer (some ⟨w.heap.size,0,none⟩)) rfl (by kernel_rfl) (by kernel_rfl) (by kernel_rfl) (λ_ _ _ h=>h) (Or.inl ⟨by rfl,?_⟩) (by assumption) ?_
 .intro w aw
  (try dsimp only at aw)
  go_simp
 try simp only [Act.put,List.setIfInBounds_toArray,List.set_cons_zero,List.set_cons_succ]
 refine wpAnyH_take (i:=5) (oi:={dst:=some 10,op:=Op.load 3 (Operand.tmp 9),type:=3,pos:= "stock.go:67",after:= #[{on:=4,ground:=Ground.data}],guard:=none}) (v:= .int .i64 (k.bm:Int)) rfl (by kernel_rfl) (by kernel_rfl) (by kernel_rfl) (λ_ _ _ h=>h) (Or.inl ⟨by rfl,?_⟩) (by assumption) ?_
 .intro w aw
  (try dsimp only at aw)
  go_simp
 try simp only [Act.put,List.setIfInBounds_toArray,List.set_cons_zero,List.set_cons_succ]
 refine wpAnyH_ready (rs:= [6]) (by kernel_rfl) (by simp) ?_;refine AllReadyH.cons (o:={dst:=some 11,op:=Op.call {callee:=Callee.value (Operand.func 32),args:= #[Operand.tmp 8,Operand.tmp 10],argTypes:= #[57,3]},type:=74,pos:= "stock.go:67",after:= #[{on:=3,ground:=Ground.data},{on:=5,ground:=Ground.data}],guard:=none}) rfl (λK hK=>?_) AllReadyH.nil;go_simp;refine h1.mono ?_;rintro e w2 ⟨rfl,dS,aK⟩;have om:w2.cell? ⟨a,0,none⟩=some (.pointer (some ⟨t,0,none⟩)):=(HP.o.ak (aK.mono (λ_ h=> .inl h))).c0;have Hv:w2.cell? ⟨w.heap.size,0,none⟩=some (.int .i64 (k.bm:Int)):=aa ((aK.block _ (af mI.o) tW).trans mI.o) (j:=0) rfl;refine hK.out _ _ ?_ (λaC=>?_)
 .exact⟨om,Hv⟩
 clear hK K;try simp only [Act.put,List.setIfInBounds_toArray,List.set_cons_zero,List.set_cons_succ]
 refine wpAnyH_take (i:=7) (oi:={dst:=some 12,op:=Op.extract (Operand.tmp 11) 0,type:=44,pos:= "stock.go:67",after:= #[{on:=6,ground:=Ground.data}],guard:=none}) (v:= .slice none 0 0) rfl (by kernel_rfl) (by kernel_rfl) (by kernel_rfl) (λ_ _ _ h=>h) (Or.inl ⟨by rfl,?_⟩) (by assumption) ?_
 .intro w aw
  (try dsimp only at aw)
  go_simp
 try simp only [Act.put,List.setIfInBounds_toArray,List.set_cons_zero,List.set_cons_succ]
 refine wpAnyH_take (i:=8) (oi:={dst:=some 13,op:=Op.extract (Operand.tmp 11) 1,type:=39,pos:= "stock.go:67",after:= #[{on:=6,ground:=Ground.data}],guard:=none}) (v:= .int .i64 R) rfl (by kernel_rfl) (by kernel_rfl) (by kernel_rfl) (λ_ _ _ h=>h) (Or.inl ⟨by rfl,?_⟩) (by assumption) ?_
 .intro w aw
  (try dsimp only at aw)
  go_simp
 try simp only [Act.put,List.setIfInBounds_toArray,List.set_cons_zero,List.set_cons_succ]
 refine wpAnyH_ready (rs:= [9]) (by kernel_rfl) (by simp) ?_;refine AllReadyH.cons (o:={dst:=some 14,op:=Op.call {callee:=Callee.value (Operand.func 174),args:= #[Operand.tmp 12,Operand.tmp 13],argTypes:= #[44,39]},type:=44,pos:= "stock.go:67",after:= #[{on:=7,ground:=Ground.data},{on:=8,ground:=Ground.data},{on:=6,ground:=Ground.chain}],guard:=none}) rfl (λK hK=>?_) AllReadyH.nil;go_simp;refine(Fp _ _ _ HR.o).mono ?_;rintro e w3 ⟨rfl,kB⟩;have Nk:=kB.symm;subst Nk;exact⟨rfl,rfl,HX.o.asked dS aK,(ad.ag F HB.o).trans aK (λ_ h=> .inl h)⟩
theorem rm {E:TypeId} {g c:Nat} {d:List Int} (h:TX w F p s cR q l m t n S G T) (hp:ar w F a t n) (k:pg) (hg:w.heap[g]? =some (.cells (bs d).toArray E (0,0))) (hl:d.length=512) (TL:Bytes d):
  Calls prog 27 #[.pointer (some ⟨a,0,none⟩),fe k, .slice (some ⟨g,0,none⟩) 512 c] w λe w'=>CK (T.put G S k.bm d).1 (.tuple #[]) e/\TX w' F p s (cR+1) q l m t n S G (T.put G S k.bm d).2/\ad (cq F t n) w w':=by
 obtain⟨w1,bd⟩:∃w1,w1=w.alloc (iE k):=⟨_,rfl⟩;have aH:Below w.heap.size w w1:=by rw [bd];exact an _ _
 have bw:w1.heap[w.heap.size]? =some (.cells #[.int .i64 (k.bm:Int), .int .i64 (k.zero:Int), .int .i64 (k.first:Int), .int .i64 ((k.first:Int)+(k.bf:Int)-1), .int .i64 k.no] 61 (0,0)):=by rw [bd];exact heap_alloc_new _ _
 have jV:Below w.heap.size w w1.drew:=ah aH;have c0:w1.drew.cell? ⟨a,0,none⟩=some (.pointer (some ⟨t,0,none⟩)):=(hp.later jV).c0;have c1:w1.drew.cell? ⟨w.heap.size,0,none⟩=some (.int .i64 (k.bm:Int)):=aa (w:=w1.drew) bw (j:=0) rfl;have fN:Src w1.drew (some ⟨g,0,none⟩) 512 d:=by
  have:=Src.Nl ((jV.block g (af hg)).trans hg);rwa [hl] at this
 have h1:=Ag (h.later jV).st (h.later jV).tx (k.bm:Int) (some ⟨g,0,none⟩) 512 c d fN (by omega) TL h.Ue;have HX:=yh (h.later jV);have HB:=yh jV;have HP:=yh (hp.later jV);have tW:¬cq F t n w.heap.size:=λhf=>by have:=h.lt _ hf;omega
 have CN:w1.drew.heap[w.heap.size]? =some (.cells #[.int .i64 (k.bm:Int), .int .i64 (k.zero:Int), .int .i64 (k.first:Int), .int .i64 ((k.first:Int)+(k.bf:Int)-1), .int .i64 k.no] 61 (0,0)):=bw;have mI:=yh CN;unfold iE at bd;have h2:Calls prog 63 #[.pointer (some ⟨t,0,none⟩), .int .i64 (k.bm:Int), .slice (some ⟨g,0,none⟩) 512 c] w1.drew λe w'=>e= .returned (.int .i64 (T.put G S k.bm d).1)/\TX w' F p s (cR+1) q l m t n S G (T.put G S k.bm d).2/\ad (cq F t n) w1.drew w':=
  h1.mono (λe w' hx=>⟨hx.1,HX.o.put hx⟩)
 clear h hp aH jV bw CN h1 fN hg hl TL HX;generalize T.put G S k.bm d=R at*;unfold CK;have HwX:=yh bd;clear bd;go_enter func27,ntmps27;go_wp2_with fail;rw [<-HwX.o];clear HwX;refine wp_region_held_drew (S:=(λw'=>w'.cell? ⟨a,0,none⟩=some (.pointer (some ⟨t,0,none⟩))/\w'.cell? ⟨w.heap.size,0,none⟩=some (.int .i64 (k.bm:Int)))) (by kernel_rfl) (⟨c0,c1⟩) (λaC=>?_);refine wpAnyH_take (i:=0) (oi:={dst:=some 6,op:=Op.move (Operand.tmp 0),type:=35,pos:= "stock.go:69",after:= #[],guard:=none}) (v:= .pointer (some ⟨a,0,none⟩)) rfl (by kernel_rfl) (by kernel_rfl) (by kernel_rfl) (λ_ _ _ h=>h) (Or.inl ⟨by rfl,?_⟩) (by assumption) ?_
 .intro w aw
  (try dsimp only at aw)
  go_simp
 try simp only [Act.put,List.setIfInBounds_toArray,List.set_cons_zero,List.set_cons_succ]
 refine wpAnyH_take (i:=1) (oi:={dst:=some 7,op:=Op.nilCheck (Operand.tmp 6),type:=0,pos:= "stock.go:69",after:= #[{on:=0,ground:=Ground.data}],guard:=none}) (v:= .pointer (some ⟨a,0,none⟩)) rfl (by kernel_rfl) (by kernel_rfl) (by kernel_rfl) (λ_ _ _ h=>h) (Or.inl ⟨by rfl,?_⟩) (by assumption) ?_
 .intro w aw
  (try dsimp only at aw)
  go_simp
 try simp only [Act.put,List.setIfInBounds_toArray,List.set_cons_zero,List.set_cons_succ]
 refine wpAnyH_take (i:=2) (oi:={dst:=some 8,op:=Op.fieldAddr 59 (Operand.tmp 7) 0,type:=0,pos:= "stock.go:69",after:= #[{on:=1,ground:=Ground.data}],guard:=none}) (v:= .pointer (some ⟨a,0,none⟩)) rfl (by kernel_rfl) (by kernel_rfl) (by kernel_rfl) (λ_ _ _ h=>h) (Or.inl ⟨by rfl,?_⟩) (by assumption) ?_
 .intro w aw
  (try dsimp only at aw)
  go_simp
 try simp only [Act.put,List.setIfInBounds_toArray,List.set_cons_zero,List.set_cons_succ]
 refine wpAnyH_take (i:=3) (oi:={dst:=some 9,op:=Op.load 57 (Operand.tmp 8),type:=57,pos:= "stock.go:69",after:= #[{on:=2,ground:=Ground.data}],guard:=none}) (v:= .pointer (some ⟨t,0,none⟩)) rfl (by kernel_rfl) (by kernel_rfl) (by kernel_rfl) (λ_ _ _ h=>h) (Or.inl ⟨by rfl,?_⟩) (by assumption) ?_
 .intro w aw
  (try dsimp only at aw)
  go_simp
 try simp only [Act.put,List.setIfInBounds_toArray,List.set_cons_zero,List.set_cons_succ]
 refine wpAnyH_take (i:=4) (oi:={dst:=some 10,op:=Op.fieldAddr 61 (Operand.tmp 4) 0,type:=0,pos:= "stock.go:69",after:= #[],guard:=none}) (v:= .pointer (some ⟨w.heap.size,0,none⟩)) rfl (by kernel_rfl) (by kernel_rfl) (by kernel_rfl) (λ_ _ _ h=>h) (Or.inl ⟨by rfl,?_⟩) (by assumption) ?_
 .intro w aw
  (try dsimp only at aw)
  go_simp
 try simp only [Act.put,List.setIfInBounds_toArray,List.set_cons_zero,List.set_cons_succ]
 refine wpAnyH_take (i:=5) (oi:={dst:=some 11,op:=Op.load 3 (Operand.tmp 10),type:=3,pos:= "stock.go:69",after:= #[{on:=4,ground:=Ground.data}],guard:=none}) (v:= .int .i64 (k.bm:Int)) rfl (by kernel_rfl) (by kernel_rfl) (by kernel_rfl) (λ_ _ _ h=>h) (Or.inl ⟨by rfl,?_⟩) (by assumption) ?_
 .intro w aw
  (try dsimp only at aw)
  go_simp
 try simp only [Act.put,List.setIfInBounds_toArray,List.set_cons_zero,List.set_cons_succ]
 refine wpAnyH_take (i:=6) (oi:={dst:=some 12,op:=Op.move (Operand.tmp 2),type:=64,pos:= "stock.go:69",after:= #[],guard:=none}) (v:= .slice (some ⟨g,0,none⟩) 512 c) rfl (by kernel_rfl) (by kernel_rfl) (by kernel_rfl) (λ_ _ _ h=>h) (Or.inl ⟨by rfl,?_⟩) (by assumption) ?_
 .intro w aw
  (try dsimp only at aw)
  go_simp
 try simp only [Act.put,List.setIfInBounds_toArray,List.set_cons_zero,List.set_cons_succ]
 refine wpAnyH_ready (rs:= [7]) (by kernel_rfl) (by simp) ?_;refine AllReadyH.cons (o:={dst:=some 13,op:=Op.call {callee:=Callee.value (Operand.func 63),args:= #[Operand.tmp 9,Operand.tmp 11,Operand.tmp 12],argTypes:= #[57,3,44]},type:=39,pos:= "stock.go:69",after:= #[{on:=3,ground:=Ground.data},{on:=5,ground:=Ground.data},{on:=6,ground:=Ground.data}],guard:=none}) rfl (λK hK=>?_) AllReadyH.nil;go_simp;refine h2.mono ?_;rintro e w2 ⟨rfl,dV,aK⟩;have om:w2.cell? ⟨a,0,none⟩=some (.pointer (some ⟨t,0,none⟩)):=(HP.o.ak aK).c0;have Hv:w2.cell? ⟨w.heap.size,0,none⟩=some (.int .i64 (k.bm:Int)):=aa ((aK.block _ (af mI.o) tW).trans mI.o) (j:=0) rfl;have HN:Yh (TX w2 F p s (cR+1) q l m t n S G R.2/\ad (cq F t n) w w2):=⟨dV,(ad.ag _ HB.o).trans aK (λ_ h=> .inl h)⟩;clear h2 dV aK;refine hK.out _ _ ?_ (λaC=>?_)
 .exact⟨om,Hv⟩
 clear hK K;try simp only [Act.put,List.setIfInBounds_toArray,List.set_cons_zero,List.set_cons_succ]
 refine wpAnyH_ready (rs:= [8]) (by kernel_rfl) (by simp) ?_;refine AllReadyH.cons (o:={dst:=some 14,op:=Op.call {callee:=Callee.value (Operand.func 62),args:= #[Operand.tmp 13],argTypes:= #[39]},type:=0,pos:= "stock.go:69",after:= #[{on:=7,ground:=Ground.data},{on:=7,ground:=Ground.chain}],guard:=none}) rfl (λK hK=>?_) AllReadyH.nil;go_simp;refine(Fq w2 R.1).mono ?_;rintro e w3 ⟨iF,kB⟩;have Nk:=kB.symm;subst Nk;clear kB;by_cases hr:R.1=0
 .rw [if_pos hr] at iF;subst iF;refine hK.out _ _ ?_ (λaC=>?_)
  .exact⟨om,Hv⟩
  clear hK K;try simp only [Act.put,List.setIfInBounds_toArray,List.set_cons_zero,List.set_cons_succ]
  refine wpAnyH_done (by kernel_rfl) ?_ _
  go_end0
  exact⟨(if_pos hr).mpr rfl,HN.o⟩
 .rw [if_neg hr] at iF;subst iF;exact⟨rfl,(if_neg hr).mpr rfl,HN.o⟩
end
end
section
theorem oQ:(prog.info? 61).map (·.size)=some 5:=by kernel_rfl
section
variable {w w':World} {F:Nat->Prop} {p s cR q l m t n a:Nat} {S:DS} {G:SG} {T:TG}
theorem kN (h:TX w F p s cR q l m t n S G T) (hp:ar w F a t n):
  Calls prog 25 #[.pointer (some ⟨a,0,none⟩)] w λe w'=>e= .returned (fe (dh G.y))/\Below w.heap.size w w':=by
 have hb:=an w (.cells #[.int .i64 0, .int .i64 0, .int .i64 0, .int .i64 0, .int .i64 0] 61);have bw:=heap_alloc_new w (.cells #[.int .i64 0, .int .i64 0, .int .i64 0, .int .i64 0, .int .i64 0] 61);have c0:=(hp.later hb).c0;have h1:=tA (h.later hb).st.st (h.later hb).tx;have e1:wrap64 ((G.y.blocks:Int)-1)=((dh G.y).first:Int)+((dh G.y).bf:Int)-1:=by
  have h1:=h.yk.bl;have h2:=h.yk.dy;show wrap64 ((G.y.blocks:Int)-1)=(G.y.data:Int)+((G.y.blocks-G.y.data:Nat):Int)-1;unfold wrap64;omega
 have e2:(dh G.y).first=G.y.data:=rfl;have HB:=yh hb;have hz:(w.alloc (.cells #[.int .i64 0, .int .i64 0, .int .i64 0, .int .i64 0, .int .i64 0] 61)).heap.size=w.heap.size+1:=by rw [World.size_alloc]
 clear h hp hb;show Calls _ _ _ _ λe w'=>e= .returned (.agg #[.int .i64 0, .int .i64 0, .int .i64 (G.y.data:Int), .int .i64 (((dh G.y).first:Int)+((dh G.y).bf:Int)-1), .int .i64 60])/\_;obtain⟨L,hL⟩:∃L:Int,L=((dh G.y).first:Int)+((dh G.y).bf:Int)-1:=⟨_,rfl⟩;rw [<-hL] at e1;rw [<-hL];clear hL e2;go_enter func25,ntmps25;go_wp2_with fail;refine h1.mono ?_;rintro e w2 ⟨rfl,aG⟩;have jW:=(aG.block _ (af bw)).trans bw;have HB2:=yh (HB.o.trans (aG.mono (by omega)));have r8:w.heap.size<w2.heap.size:=af jW
 dsimp only [Ph]
 clear h1 aG bw;have fU:=an w2 (.cells #[.int .i64 (G.y.log:Int), .int .i64 (G.y.home:Int), .int .i64 (G.y.blocks:Int), .int .i64 (G.y.nodes:Int), .int .i64 (G.y.data:Int)] 87);have sM:=(fU.block _ r8).trans jW;have cC:=aZ sM (n:=5) rfl;have oH:((w2.alloc (.cells #[.int .i64 (G.y.log:Int), .int .i64 (G.y.home:Int), .int .i64 (G.y.blocks:Int), .int .i64 (G.y.nodes:Int), .int .i64 (G.y.data:Int)] 87)).setCells w.heap.size 0 [.int .i64 0, .int .i64 0, .int .i64 (G.y.data:Int), .int .i64 L, .int .i64 60]).rangeAt w.heap.size 0 [.int .i64 0, .int .i64 0, .int .i64 (G.y.data:Int), .int .i64 L, .int .i64 60]:=World.rangeAt_setCells_same _ w.heap.size 0 _ cC;have HE:Yh (Below w.heap.size w ((w2.alloc (.cells #[.int .i64 (G.y.log:Int), .int .i64 (G.y.home:Int), .int .i64 (G.y.blocks:Int), .int .i64 (G.y.nodes:Int), .int .i64 (G.y.data:Int)] 87)).setCells w.heap.size 0 [.int .i64 0, .int .i64 0, .int .i64 (G.y.data:Int), .int .i64 L, .int .i64 60])):=
    (HB2.o.trans (fU.mono (by omega))).trans ((ad.setCells (F:=λj=>j=w.heap.size) rfl _ 0 _).below (λj hj=>by omega) (by have:=fU.size;omega))
 have Uf:=yh oH;clear fU jW sM oH;go_wp2_with (refine wpList_store_mid rfl 61 _ _ rfl w.heap.size 0 #[.int .i64 0, .int .i64 0, .int .i64 (G.y.data:Int), .int .i64 L, .int .i64 60] rfl rfl ?h1 ?h2 ?h3 ?_);case h1=>exact cC
 case h2=>exact oQ
 case h3=>simp [Value.oneCell']
 refine bodyPost_ret (cN (P:=prog) rfl _ _ w.heap.size _ _ rfl Uf.o underlying61 rfl oQ) rfl ⟨rfl,HE.o⟩
theorem Nm (y:LY) (w:World):(Instr.field 87 (Ph y) 3).run prog w= .ok (.int .i64 (y.nodes:Int)) w:=by kernel_rfl
theorem oR (h:TX w F p s cR q l m t n S G T) (hp:ar w F a t n):
  Calls prog 26 #[.pointer (some ⟨a,0,none⟩)] w λe w'=>e= .returned (fe (dX G.y))/\Below w.heap.size w w':=by
 have hb:=an w (.cells #[.int .i64 0, .int .i64 0, .int .i64 0, .int .i64 0, .int .i64 0] 61);have bw:=heap_alloc_new w (.cells #[.int .i64 0, .int .i64 0, .int .i64 0, .int .i64 0, .int .i64 0] 61);have c0:=(hp.later hb).c0;have h1:=tA (h.later hb).st.st (h.later hb).tx;have hfd:=Nm G.y;have HB:=yh hb;have hz:(w.alloc (.cells #[.int .i64 0, .int .i64 0, .int .i64 0, .int .i64 0, .int .i64 0] 61)).heap.size=w.heap.size+1:=by rw [World.size_alloc]
 clear h hp hb;have e9:fe (dX G.y)= .agg #[.int .i64 1, .int .i64 1, .int .i64 1, .int .i64 (G.y.nodes:Int), .int .i64 61]:=by
  have:((dX G.y).first:Int)+((dX G.y).bf:Int)-1=(G.y.nodes:Int):=by
   show (1:Int)+(G.y.nodes:Int)-1=_;omega
  unfold fe;rw [this];rfl
 rw [e9];clear e9;go_enter func26,ntmps26;go_wp2_with fail;refine h1.mono ?_;rintro e w2 ⟨rfl,aG⟩;have jW:=(aG.block _ (af bw)).trans bw;have HB2:=yh (HB.o.trans (aG.mono (by omega)));have r8:w.heap.size<w2.heap.size:=af jW;clear h1 aG bw;have cC:=aZ jW (n:=5) rfl;have oH:(w2.setCells w.heap.size 0 [.int .i64 1, .int .i64 1, .int .i64 1, .int .i64 (G.y.nodes:Int), .int .i64 61]).rangeAt w.heap.size 0 [.int .i64 1, .int .i64 1, .int .i64 1, .int .i64 (G.y.nodes:Int), .int .i64 61]:=World.rangeAt_setCells_same _ w.heap.size 0 _ cC;have HE:Yh (Below w.heap.size w (w2.setCells w.heap.size 0 [.int .i64 1, .int .i64 1, .int .i64 1, .int .i64 (G.y.nodes:Int), .int .i64 61])):=
  HB2.o.trans ((ad.setCells (F:=λj=>j=w.heap.size) rfl _ 0 _).below (λj hj=>by omega) (by omega))
 have Uf:=yh oH;clear jW oH;go_wp2_with (refine wpList_store_mid rfl 61 _ _ rfl w.heap.size 0 #[.int .i64 1, .int .i64 1, .int .i64 1, .int .i64 (G.y.nodes:Int), .int .i64 61] rfl rfl ?h1 ?h2 ?h3 ?_);case h1=>exact cC
 case h2=>exact oQ
 case h3=>simp [Value.oneCell']
 refine bodyPost_ret (cN (P:=prog) rfl _ _ w.heap.size _ _ rfl Uf.o underlying61 rfl oQ) rfl ⟨rfl,HE.o⟩
end
end
end Go.Proofs.YtkiehemoiapkkaaGreat
