import Derived.Test.YtenlkgicpllbhabGreatW01
import Derived.Test.YtenlkgicpllbhabGreatW23
import Derived.Test.YtenlkgicpllbhabGreatW24
set_option maxRecDepth 20000
set_option maxHeartbeats 8000000
set_option linter.all false
namespace Go.Proofs.YtenlkgicpllbhabGreat
open Go.Proofs.Tryz
open Go.RowKit Go.Maps
structure TL (w wr:World) (B q p r s j:Nat):Prop where
 b:Below B w wr
 x:∃A,E5 wr q A p r s (2*j+1)/\∀g,A g->B<=g
 lo:B<=wr.heap.size
theorem TL.step {w wr w':World} {B q p r s j:Nat} {A:Nat->Prop} (e:Below B w wr) (ox:B<=wr.heap.size) (b:∀g,A g->B<=g) (h:dJ wr w' q A p r s (2*j+1)):TL w w' B q p r s (j+1):=by
 obtain⟨A',c,a,d⟩:=h;exact⟨e.trans (a.below b ox),⟨A',c,λg f=>(d g f).elim (b g) (λh=>by omega)⟩,jQ ox a.size⟩
theorem kM (bI k1 k2 k3:Int) (a:Option Addr) (n c:Nat) (l:List Int) (R:Option Addr) (k sc:Nat) (w:World) (hs:Src w a n l) (hl:Bytes l) (hn:n<=140737488355328) (iS:n<=c) (vF:kt w w.heap.size R k) (fZ:104*k<=140737488355328):
  Calls prog 6 #[iV bI, .slice a n c, .slice R k sc,iV k1,iV k2,iV k3] w λe w'=>e= .returned (.bool true)/\bW w w':=by
 have m1:=Lw bI a n c l w hs hn iS;have v:=yh vF;have U:=yh hl;clear hs vF hl;go_in;go_wp2_with fail;refine m1.mono ?_;rintro e w1 ⟨q,rfl,K⟩;have m2:=O0 w1;have C:=yh K;clear m1 K;go_wp2_with fail;refine bE m2 λw2 aW=>?_;obtain⟨aq,hq,Iy⟩:=C.o;have dr:=aq.size;have ec:=aW.size;have dE:Yh (bW w w2):=aq.trans (aW.mono dr);clear m2 C;rcases Iy with jx|⟨F,F2,O,p,r,s,im,m,YB,ox⟩
 .have B8:=(aW.block q (aw jx)).trans jx;have c0:=aL B8;clear aW aq jx B8;go_wp2;go_ret;exact⟨rfl,dE.o⟩
 .have I:=TI m YB U.o;have gY:=m.later aW;have HR:Yh (TL w w2 w.heap.size q p r s 0):=yh ⟨dE.o,⟨λg=>F g\/F2 g\/O g,⟨F,_,F2,_,O,_,0,_,_,_,_,_,_,_,_,gY,I,λg f=>(by
   rcases f with f|f|f|f|f
   .exact .inl f
   .exact f.elim
   .exact .inr (.inl f)
   .exact f.elim
   .exact .inr (.inr f)),dU _,dU _,dU _⟩,λg f=>ox g f⟩,by omega⟩
  have c0:=gY.c0;have c1:=gY.c1;clear aq aW m YB ox I gY;go_wp2;clear c0 c1;go_loopw [15] (λi wr=>∃j:Nat,j<=k/\i=iV (j:Int)/\TL w wr w.heap.size q p r s j) (λi _=>k-(intOf i).toNat);case atStart=>exact⟨0,dU _,rfl,HR.o⟩
  case round=>
   obtain⟨j,hj,rfl,bC⟩:=hrel;by_cases bm:j<k
   .have cw:(j:Int)<(k:Int):=(by omega);obtain⟨y,rfl⟩:∃y,R=some y:=by
     cases R with
     |none=>have:=v.o.1 rfl;omega
     |some y=>exact⟨y,rfl⟩
    obtain⟨b,o,rfl,Mk,L,D,t,u,E,H,G,M,P,N,x,Q,z,d,pl,e0,e1,e2,e3,e4,e5,e6,e7,e8,ho⟩:=(v.o.lI bC.b).2 y rfl j bm;obtain⟨hb,⟨A0,⟨F',Z,Yc,X',Y,S',c',v1,v2,v3,v4,ss,ts,rs,us,m,I,Cp,wQ,oS,mY⟩,ox⟩,WM⟩:=bC;have bz:=aI wr (.cells (iO L D t u E H G M P N x Q z) 42);have gW:=m.later bz;have aa5:=λg f=>ox g (Cp g f);have Bu:=ho.lI (bz.mono WM);obtain⟨wL,J⟩:=Bu.ak7 (A':=λg=>F' g\/Z g\/Yc g\/X' g\/Y g) aa5 (jQ WM bz.size);have m3:=OY (A:=λg=>F' g\/Z g\/Yc g\/X' g\/Y g) gW I (λg f=>f) gW.under wQ oS mY (by omega) L D t u E H G M P N x Q z Bu.g Bu.A d wL Bu.b Bu.n pl J Bu.pn;have xA:(wr.alloc (.cells (iO L D t u E H G M P N x Q z) 42)).heap[wr.heap.size]? =some (.cells (iO L D t u E H G M P N x Q z) 42 (0,0)):=heap_alloc_new _ _;obtain⟨z0,z1,z2,z3,z4,z5,z6,z7,z8⟩:=iT xA;have S:=yh (hb.trans (bz.mono WM));have W:Yh (w.heap.size<=(wr.alloc (.cells (iO L D t u E H G M P N x Q z) 42)).heap.size):=jQ WM bz.size;have T:=yh aa5;clear hb m I bz gW ho Bu wL J ox Cp aa5 xA;go_wp2_with fail;refine bE m3 λw4 afV=>?_;have X:=yh (TL.step S.o W.o T.o afV);clear m3 afV e0 e1 e2 e3 e4 e5 e6 e7 e8;go_wp2;go_roundw;case rel=>exact⟨j+1,by omega,by go_num,X.o⟩
    case measure=>simp [intOf];omega
   .obtain rfl:j=k:=(by omega);have vQ:¬(j:Int)<(j:Int):=(by omega);have S:=yh bC.b;clear bC;go_wp2;go_ret;exact⟨rfl,S.o⟩
end Go.Proofs.YtenlkgicpllbhabGreat
