import Derived.Test.YtenlkgicpllbhaaGreatV01
import Derived.Test.YtenlkgicpllbhaaGreatV03
import Derived.Deep.RegionHeld3
import Derived.RangeFuncNested
import Derived.RangeFuncBound
import Derived.RangeFuncCalls
import Derived.RangeFuncLeaves
import Derived.Shelf.Abstract
import Derived.Shelf.RegionOpen
import Derived.OwnWalkIn
import Derived.TacticsInMore
import Derived.LoopNIn
import Derived.LoopIn
import Derived.Deep.AppendLies
import Derived.OrdersHeld
import Derived.Deep.RegionHeld
import Derived.Scope
import Derived.WalkMore
set_option maxRecDepth 20000
set_option maxHeartbeats 8000000
set_option linter.all false
namespace Go.Proofs.YtenlkgicpllbhaaGreat
open Go.Proofs.Tryz
open Go.RowKit Go.Maps
variable {cur cur':Array Value} {S:DS} {rs:List (List Int)} {body d l:List Int} {vs xs:List Value} {B' B0 E P T c cap QU f g g' h hd i j k n n₀ p s:Nat} {F G X X':Nat->Prop} {a:Option Addr} {e t':TypeId} {v vR vr:Value} {W W' W'' w w' w1 w2 w3:World}
theorem M9 (a:Option Addr) (n c:Nat) (l:List Int) (b:Option Addr) (m d:Nat) (r:List Int) (k:Option Addr) (q p:Nat) (num:Int) (w:World) (g:Src w a n l) (bo:Src w b m r) (iZ:¬(n=512/\m=512)):
  Calls prog 148 #[.slice a n c, .slice b m d,iV num, .slice k q p] w λe w'=>e= .returned (.tuple #[iV 0, .slice none 0 0,iV 2])/\bW w w':=by
 have Fd:(decide (n=512) && decide (m=512))=false:=by rw [<-Bool.decide_and,decide_eq_false iZ]
 clear iZ;obtain⟨t,h1,aU,bR⟩:=cM kz (jl a n c l b m d r w g bo) (jY (aS l) (aS r)) (all_oneCell_toArray (cB (bO l ++ bO r)));have rB:(bs (bO l ++ bO r)).length=1024:=by rw [bs,List.length_map,dT,aS,aS]
 obtain⟨F,f⟩:=bQ (bs (bO l ++ bO r));rw [<-f] at h1 aU bR rB;have i:=yh f;clear f g bo;go_in;go_wp2_with fail;refine bE h1 λw1 aq=>?_;have bN:(w1.alloc (.cells cO 213)).heap[w1.heap.size]? =some (.cells cO 213 (0,0)):=heap_alloc_new _ _;have dZ:=cE bN cX;rw [<-rB] at dZ;have bK:bW w (w1.alloc (.cells cO 213)):=aq.alloc aq.size _;have ef:=aq.size;have eM:=bK.trans ((aa.setCells (F:=λj=>j=w1.heap.size) rfl F 0 _).below (λj s=>by omega) bK.size);have aZ:=eE (l:=bO l ++ bO r) bN (by rw [cX,dT,aS,aS]);rw [<-i.o] at aZ;obtain⟨u,dw⟩:=bQ ((w1.alloc (.cells cO 213)).setCells w1.heap.size 0 F);rw [<-dw] at eM aZ;obtain⟨dE,eV⟩:=bL eM dw;clear h1 bN bK aq eM aZ dw;rw [Fd];go_wp2_with (refine wpList_store_mid rfl 213 _ _ rfl w1.heap.size 0 F.toArray rfl rfl ?h1 ?h2 bR ?_);case h1=>simpa using dZ
 case h2=>simpa using aU
 rw [<-eV.o];go_ret3;exact⟨rfl,dE.o⟩
theorem Na (a:Option Addr) (n c:Nat) (l:List Int) (b:Option Addr) (m d:Nat) (r:List Int) (k:Option Addr) (q p:Nat) (num:Int) (w:World) (g:Src w a n l) (bo:Src w b m r) (kC:n=512/\m=512) (s:num<1):
  Calls prog 148 #[.slice a n c, .slice b m d,iV num, .slice k q p] w λe w'=>e= .returned (.tuple #[iV 0, .slice none 0 0,iV 1])/\bW w w':=by
 have Fd:(decide (n=512) && decide (m=512))=true:=by rw [<-Bool.decide_and,decide_eq_true kC]
 clear kC;obtain⟨u,h1,aU,bR⟩:=cM kz (jl a n c l b m d r w g bo) (jY (aS l) (aS r)) (all_oneCell_toArray (cB (bO l ++ bO r)));have rB:(bs (bO l ++ bO r)).length=1024:=by rw [bs,List.length_map,dT,aS,aS]
 obtain⟨F,f⟩:=bQ (bs (bO l ++ bO r));rw [<-f] at h1 aU bR rB;have i:=yh f;clear f g bo;go_in;go_wp2_with fail;refine bE h1 λw1 aq=>?_;have bN:(w1.alloc (.cells cO 213)).heap[w1.heap.size]? =some (.cells cO 213 (0,0)):=heap_alloc_new _ _;have dZ:=cE bN cX;rw [<-rB] at dZ;have bK:bW w (w1.alloc (.cells cO 213)):=aq.alloc aq.size _;have ef:=aq.size;have eM:=bK.trans ((aa.setCells (F:=λj=>j=w1.heap.size) rfl F 0 _).below (λj t=>by omega) bK.size);have aZ:=eE (l:=bO l ++ bO r) bN (by rw [cX,dT,aS,aS]);rw [<-i.o] at aZ;obtain⟨v,dw⟩:=bQ ((w1.alloc (.cells cO 213)).setCells w1.heap.size 0 F);rw [<-dw] at eM aZ;obtain⟨dE,eV⟩:=bL eM dw;clear h1 bN bK aq eM aZ dw;rw [Fd];go_wp2_with (refine wpList_store_mid rfl 213 _ _ rfl w1.heap.size 0 F.toArray rfl rfl ?h1 ?h2 bR ?_);case h1=>simpa using dZ
 case h2=>simpa using aU
 rw [<-eV.o];go_ret3;exact⟨rfl,dE.o⟩
theorem Nb (a:Option Addr) (n c:Nat) (l:List Int) (b:Option Addr) (m d:Nat) (r:List Int) (k:Option Addr) (q p:Nat) (num:Int) (w:World) (g:Src w a n l) (bo:Src w b m r) (kC:n=512/\m=512) (s:¬num<1) (t:496<q):
  Calls prog 148 #[.slice a n c, .slice b m d,iV num, .slice k q p] w λe w'=>e= .returned (.tuple #[iV 0, .slice none 0 0,iV 7])/\bW w w':=by
 have Fd:(decide (n=512) && decide (m=512))=true:=by rw [<-Bool.decide_and,decide_eq_true kC]
 have aoH:496<(q:Int):=by omega
 clear kC;obtain⟨v,h1,aU,bR⟩:=cM kz (jl a n c l b m d r w g bo) (jY (aS l) (aS r)) (all_oneCell_toArray (cB (bO l ++ bO r)));have rB:(bs (bO l ++ bO r)).length=1024:=by rw [bs,List.length_map,dT,aS,aS]
 obtain⟨F,f⟩:=bQ (bs (bO l ++ bO r));rw [<-f] at h1 aU bR rB;have i:=yh f;clear f g bo;go_in;go_wp2_with fail;refine bE h1 λw1 aq=>?_;have bN:(w1.alloc (.cells cO 213)).heap[w1.heap.size]? =some (.cells cO 213 (0,0)):=heap_alloc_new _ _;have dZ:=cE bN cX;rw [<-rB] at dZ;have bK:bW w (w1.alloc (.cells cO 213)):=aq.alloc aq.size _;have ef:=aq.size;have eM:=bK.trans ((aa.setCells (F:=λj=>j=w1.heap.size) rfl F 0 _).below (λj u=>by omega) bK.size);have aZ:=eE (l:=bO l ++ bO r) bN (by rw [cX,dT,aS,aS]);rw [<-i.o] at aZ;obtain⟨x,dw⟩:=bQ ((w1.alloc (.cells cO 213)).setCells w1.heap.size 0 F);rw [<-dw] at eM aZ;obtain⟨dE,eV⟩:=bL eM dw;clear h1 bN bK aq eM aZ dw;rw [Fd];go_wp2_with (refine wpList_store_mid rfl 213 _ _ rfl w1.heap.size 0 F.toArray rfl rfl ?h1 ?h2 bR ?_);case h1=>simpa using dZ
 case h2=>simpa using aU
 rw [<-eV.o];go_ret3;exact⟨rfl,dE.o⟩
theorem Nc (a:Option Addr) (n c:Nat) (l:List Int) (b:Option Addr) (m d:Nat) (r:List Int) (p:Option Addr) (q s:Nat) (num:Int) (w:World) (g:Src w a n l) (bo:Src w b m r) (x:Bytes l) (z:Bytes r) (kC:n=512/\m=512) (t:¬num<1) (u:q<=496) (U7:num<=(((am l r).2.1:Nat):Int)):
  Calls prog 148 #[.slice a n c, .slice b m d,iV num, .slice p q s] w λe w'=>e= .returned (.tuple #[iV 0, .slice none 0 0,iV 31])/\bW w w':=by
 obtain⟨QF,xB⟩:=kC;subst QF;subst xB;have Fd:(decide (512=512) && decide (512=512))=true:=rfl;have Xr:=yh U7;clear U7;obtain⟨J,h1,A9,uS,aU,bR⟩:=kQ kz (jl a 512 c l b 512 d r w g bo) g.1 bo.1 (jY (aS l) (aS r)) (all_oneCell_toArray (cB (bO l ++ bO r)));have rB:(bs (bO l ++ bO r)).length=1024:=by rw [bs,List.length_map,dT,aS,aS]
 obtain⟨F,f⟩:=bQ (bs (bO l ++ bO r));rw [<-f] at h1 aU bR rB;have k:=yh f;clear f g bo;go_in;go_wp2_with fail;refine bE h1 λw1 aq=>?_;have bN:(w1.alloc (.cells cO 213)).heap[w1.heap.size]? =some (.cells cO 213 (0,0)):=heap_alloc_new _ _;have dZ:=cE bN cX;rw [<-rB] at dZ;have bK:bW w (w1.alloc (.cells cO 213)):=aq.alloc aq.size _;have ef:=aq.size;have eM:=bK.trans ((aa.setCells (F:=λj=>j=w1.heap.size) rfl F 0 _).below (λj I=>by omega) bK.size);have aZ:=eE (l:=bO l ++ bO r) bN (by rw [cX,dT,aS,aS]);rw [<-k.o] at aZ;obtain⟨H,dw⟩:=bQ ((w1.alloc (.cells cO 213)).setCells w1.heap.size 0 F);rw [<-dw] at eM aZ;obtain⟨dE,si,eV⟩:=jS eM aZ dw;clear h1 bN bK aq eM aZ dw;rw [Fd];rw [(gC A9),(gC uS)] at si;obtain⟨s1,s2⟩:=qH si.o A9 uS;have i:=om w1.heap.size l r H s1 s2 x z;clear s1 s2 si;go_wp2_with (refine wpList_store_mid rfl 213 _ _ rfl w1.heap.size 0 F.toArray rfl rfl ?h1 ?h2 bR ?_);case h1=>simpa using dZ
 case h2=>simpa using aU
 rw [<-eV.o];refine i.mono ?_;rintro e K ⟨v,rfl,iG,bz⟩;obtain⟨E,G,C,y⟩:=iG;subst C;have fS:=yh ((dE.o.trans (bz.mono dE.o.size)).alloc (jQ dE.o.size bz.size) (.cells #[.int .i64 (((am l r).1:Nat):Int), .int .i64 (((am l r).2.1:Nat):Int), .slice E (am l r).2.2.1.length G] 217));clear i y bz eV dZ aU bR dE;have U7:=Xr.o;clear Xr;generalize (am l r).1=A at*;generalize (am l r).2.1=B at*;generalize (am l r).2.2.1.length=D at*;go_wp2;go_ret3;exact⟨rfl,fS.o⟩
theorem Nd (a:Option Addr) (n c:Nat) (l:List Int) (p:Option Addr) (m d:Nat) (r:List Int) (k:Option Addr) (q x:Nat) (b:List Int) (num:Int) (w:World) (H:Src w a n l) (bo:Src w p m r) (hl:Bytes l) (hr:Bytes r) (kC:n=512/\m=512) (N:Nat) (dP:num=(N:Int)) (uU:1<=N) (Xs:N<9223372036854775808) (fB:Src w k q b) (LX:Bytes b) (y:q<=496) (tk:k=none->x=0) (U7:(am l r).2.1<N) (O:(am l r).1<=1) (F0:(if (am l r).2.1=0 then 0 else 1-(am l r).1)=0):
  Calls prog 148 #[.slice a n c, .slice p m d,iV num, .slice k q x] w λe w'=>∃g,e= .returned (.tuple #[iV 0, .slice (some (aD g 0)) 512 512,iV 0])/\jX w' 211 g (be (cD (l.getD 0 0) (l.getD 511 0)) (aQ N ++ b))/\w.heap.size<=g/\bW w w':=by
 subst dP;obtain⟨QF,xB⟩:=kC;subst QF;subst xB;have Fd:(decide (512=512) && decide (512=512))=true:=rfl;obtain⟨Xr,L,F6⟩:=jS U7 O F0;clear U7 O F0;obtain⟨T,sX,ec,hz,h1,A9,uS,aU,bR⟩:=UD (yh fB) fB.1 jc kz (jl a 512 c l p 512 d r w H bo) H.1 bo.1 (jY (aS l) (aS r)) (all_oneCell_toArray (cB (bO l ++ bO r)));have rB:(bs (bO l ++ bO r)).length=1024:=by rw [bs,List.length_map,dT,aS,aS]
 obtain⟨F,z⟩:=bQ (bs (bO l ++ bO r));rw [<-z] at h1 aU bR rB;have U:=yh z;clear z H bo fB;go_in;go_wp2_with fail;refine bE h1 λw1 aq=>?_;have bN:(w1.alloc (.cells cO 213)).heap[w1.heap.size]? =some (.cells cO 213 (0,0)):=heap_alloc_new _ _;have dZ:=cE bN cX;rw [<-rB] at dZ;have bK:bW w (w1.alloc (.cells cO 213)):=aq.alloc aq.size _;have ef:=aq.size;have eM:=bK.trans ((aa.setCells (F:=λj=>j=w1.heap.size) rfl F 0 _).below (λj Z=>by omega) bK.size);have aZ:=eE (l:=bO l ++ bO r) bN (by rw [cX,dT,aS,aS]);rw [<-U.o] at aZ;obtain⟨w2,dw⟩:=bQ ((w1.alloc (.cells cO 213)).setCells w1.heap.size 0 F);rw [<-dw] at eM aZ;obtain⟨dE,si,eV⟩:=jS eM aZ dw;clear h1 bN bK aq eM aZ dw;rw [Fd];rw [(gC A9),(gC uS)] at si;obtain⟨s1,s2⟩:=qH si.o A9 uS;have Q:=om w1.heap.size l r w2 s1 s2 hl hr;have oN:=yh s1;clear s1 s2 si;go_wp2_with (refine wpList_store_mid rfl 213 _ _ rfl w1.heap.size 0 F.toArray rfl rfl ?h1 ?h2 bR ?_);case h1=>simpa using dZ
 case h2=>simpa using aU
 rw [<-eV.o];refine Q.mono ?_;rintro e K ⟨v,rfl,iG,bz⟩;obtain⟨R,S,hv,hq⟩:=iG;subst hv;have jK:=dE.o.trans (bz.mono dE.o.size);have fe:bW K (K.alloc (.cells #[.int .i64 (((am l r).1:Nat):Int), .int .i64 (((am l r).2.1:Nat):Int), .slice R (am l r).2.2.1.length S] 217)):=(bi _ K).alloc (bP _) _;obtain⟨jB,M,E⟩:=jS (jK.trans (fe.mono jK.size)) ((oN.o.later bz).later fe) (λw'=>Co (am l r).1 (am l r).2.1 (.slice R (am l r).2.2.1.length S) w' L.o);rw [F6.o] at E;have ahU:¬(N:Int)<=(((am l r).2.1:Nat):Int):=by have:=Xr.o;omega
 clear Xr L F6;clear Q hq bz eV dZ aU bR dE jK fe oN;generalize (am l r).1=A at*;generalize (am l r).2.1=B at*;generalize (am l r).2.2.1.length=D at*;go_wp2_with fail;refine(E.out _).mono ?_;rintro e w5 ⟨rfl,ff⟩;obtain⟨jd,Y8⟩:=bL (jB.o.trans (ff.mono jB.o.size)) (M.o.later ff);have s:=Y8.o.2.2 _ rfl 0 (by omega);have u:=Y8.o.2.2 _ rfl 511 (by omega);rw [aK] at s u;have I:=oe w1.heap.size 0 (l.getD 0 0) (l.getD 511 0) w5 s u;have ht:=gd (l.getD 0 0) (l.getD 511 0);obtain⟨t,wK⟩:=bQ (cD (l.getD 0 0) (l.getD 511 0));rw [<-wK] at ht I;have Qt:=yh wK;clear E ff jB M s u wK;go_wp2_with fail;refine bE I λw' P=>?_;have ez:=P.symm;subst ez;clear P I;go_wp2_with fail;refine(pF N k q x b w5 Xs (T.o.later jd.o) y tk).mono ?_;rintro e w6 ⟨v6,rfl,Xp,ny⟩;obtain⟨p6,Y,rfl,T6,_,_⟩:=Xp.src;have kv:(aQ N ++ b).length=8+q:=by rw [dT,dN,sX]
 rw [kv] at T6⊢;have wO:=yh (jd.o.trans (ny.mono jd.o.size));have J:=oh t p6 (8+q) Y (aQ N ++ b) w6 (by omega) T6 (by omega) ((iC N).append LX);have jL:(be t (aQ N ++ b)).length=512:=fj (by omega);have yQ:=iY (l:=be t (aQ N ++ b)) jL;have F8:=all_oneCell_toArray (cB (be t (aQ N ++ b)));have DG:(bs (be t (aQ N ++ b))).length=512:=by rw [bs,List.length_map,jL]
 obtain⟨G,C⟩:=bQ (bs (be t (aQ N ++ b)));rw [<-C] at J yQ F8 DG;have W:=yh C;clear Xp ny T6 jd C;generalize 8+q=Q8 at*;go_wp2_with fail;refine bE J λf vU=>?_;have Bq:=wO.o.trans (vU.mono wO.o.size);have T7:(f.alloc (.cells bh 211)).heap[f.heap.size]? =some (.cells bh 211 (0,0)):=heap_alloc_new _ _;have dZ:=cE T7 cI;rw [<-DG] at dZ;have aZ:=eE (l:=be t (aQ N ++ b)) T7 (by rw [cI,jL]);rw [<-W.o] at aZ;have ahV:=Bq.size;have M7:bW w (f.alloc (.cells bh 211)):=Bq.alloc Bq.size _;have i:=M7.trans ((aa.setCells (F:=λj=>j=f.heap.size) rfl G 0 _).below (λj Z=>by omega) M7.size);rw [Qt.o] at aZ;have X:=yh (λj=>aF (aZ.au (w':=((f.alloc (.cells bh 211)).setCells f.heap.size 0 G).drewN j) rfl) (aF Bq.size (below_drewN i j)));clear J vU Bq T7 aZ M7 i wO;go_wp2_with (refine wpList_store_mid rfl 211 _ _ rfl f.heap.size 0 G.toArray rfl rfl ?h1 ?h2 F8 ?_);case h1=>simpa using dZ
 case h2=>simpa using yQ
 go_quiet (fail);go_wp2;go_ret3;exact⟨f.heap.size,rfl,X.o _⟩
theorem Ne (a:Option Addr) (n c:Nat) (l:List Int) (p:Option Addr) (m d:Nat) (r:List Int) (k:Option Addr) (q x:Nat) (b:List Int) (num:Int) (w:World) (H:Src w a n l) (bo:Src w p m r) (hl:Bytes l) (hr:Bytes r) (kC:n=512/\m=512) (N:Nat) (dP:num=(N:Int)) (uU:1<=N) (Xs:N<9223372036854775808) (fB:Src w k q b) (LX:Bytes b) (y:q<=496) (tk:k=none->x=0) (U7:(am l r).2.1<N) (O:(am l r).1<=1) (F0:(if (am l r).2.1=0 then 0 else 1-(am l r).1)=1):
  Calls prog 148 #[.slice a n c, .slice p m d,iV num, .slice k q x] w λe w'=>∃g,e= .returned (.tuple #[iV 1, .slice (some (aD g 0)) 512 512,iV 0])/\jX w' 211 g (be (cD (r.getD 0 0) (r.getD 511 0)) (aQ N ++ b))/\w.heap.size<=g/\bW w w':=by
 subst dP;obtain⟨QF,xB⟩:=kC;subst QF;subst xB;have Fd:(decide (512=512) && decide (512=512))=true:=rfl;obtain⟨Xr,L,F6⟩:=jS U7 O F0;clear U7 O F0;obtain⟨T,sX,ec,hz,h1,A9,uS,aU,bR⟩:=UD (yh fB) fB.1 jc kz (jl a 512 c l p 512 d r w H bo) H.1 bo.1 (jY (aS l) (aS r)) (all_oneCell_toArray (cB (bO l ++ bO r)));have rB:(bs (bO l ++ bO r)).length=1024:=by rw [bs,List.length_map,dT,aS,aS]
 obtain⟨F,z⟩:=bQ (bs (bO l ++ bO r));rw [<-z] at h1 aU bR rB;have U:=yh z;clear z H bo fB;go_in;go_wp2_with fail;refine bE h1 λw1 aq=>?_;have bN:(w1.alloc (.cells cO 213)).heap[w1.heap.size]? =some (.cells cO 213 (0,0)):=heap_alloc_new _ _;have dZ:=cE bN cX;rw [<-rB] at dZ;have bK:bW w (w1.alloc (.cells cO 213)):=aq.alloc aq.size _;have ef:=aq.size;have eM:=bK.trans ((aa.setCells (F:=λj=>j=w1.heap.size) rfl F 0 _).below (λj Z=>by omega) bK.size);have aZ:=eE (l:=bO l ++ bO r) bN (by rw [cX,dT,aS,aS]);rw [<-U.o] at aZ;obtain⟨w2,dw⟩:=bQ ((w1.alloc (.cells cO 213)).setCells w1.heap.size 0 F);rw [<-dw] at eM aZ;obtain⟨dE,si,eV⟩:=jS eM aZ dw;clear h1 bN bK aq eM aZ dw;rw [Fd];rw [(gC A9),(gC uS)] at si;obtain⟨s1,s2⟩:=qH si.o A9 uS;have Q:=om w1.heap.size l r w2 s1 s2 hl hr;have wR:=yh s2;clear s1 s2 si;go_wp2_with (refine wpList_store_mid rfl 213 _ _ rfl w1.heap.size 0 F.toArray rfl rfl ?h1 ?h2 bR ?_);case h1=>simpa using dZ
 case h2=>simpa using aU
 rw [<-eV.o];refine Q.mono ?_;rintro e K ⟨v,rfl,iG,bz⟩;obtain⟨R,S,hv,hq⟩:=iG;subst hv;have jK:=dE.o.trans (bz.mono dE.o.size);have fe:bW K (K.alloc (.cells #[.int .i64 (((am l r).1:Nat):Int), .int .i64 (((am l r).2.1:Nat):Int), .slice R (am l r).2.2.1.length S] 217)):=(bi _ K).alloc (bP _) _;obtain⟨jB,M,E⟩:=jS (jK.trans (fe.mono jK.size)) ((wR.o.later bz).later fe) (λw'=>Co (am l r).1 (am l r).2.1 (.slice R (am l r).2.2.1.length S) w' L.o);rw [F6.o] at E;have ahU:¬(N:Int)<=(((am l r).2.1:Nat):Int):=by have:=Xr.o;omega
 clear Xr L F6;clear Q hq bz eV dZ aU bR dE jK fe wR;generalize (am l r).1=A at*;generalize (am l r).2.1=B at*;generalize (am l r).2.2.1.length=D at*;go_wp2_with fail;refine(E.out _).mono ?_;rintro e w5 ⟨rfl,ff⟩;obtain⟨jd,Y8⟩:=bL (jB.o.trans (ff.mono jB.o.size)) (M.o.later ff);have s:=Y8.o.2.2 _ rfl 0 (by omega);have u:=Y8.o.2.2 _ rfl 511 (by omega);rw [aK] at s u;have I:=oe w1.heap.size 512 (r.getD 0 0) (r.getD 511 0) w5 s u;have ht:=gd (r.getD 0 0) (r.getD 511 0);obtain⟨t,wK⟩:=bQ (cD (r.getD 0 0) (r.getD 511 0));rw [<-wK] at ht I;have Qt:=yh wK;clear E ff jB M s u wK;go_wp2_with fail;refine bE I λw' P=>?_;have ez:=P.symm;subst ez;clear P I;go_wp2_with fail;refine(pF N k q x b w5 Xs (T.o.later jd.o) y tk).mono ?_;rintro e w6 ⟨v6,rfl,Xp,ny⟩;obtain⟨p6,Y,rfl,T6,_,_⟩:=Xp.src;have kv:(aQ N ++ b).length=8+q:=by rw [dT,dN,sX]
 rw [kv] at T6⊢;have wO:=yh (jd.o.trans (ny.mono jd.o.size));have J:=oh t p6 (8+q) Y (aQ N ++ b) w6 (by omega) T6 (by omega) ((iC N).append LX);have jL:(be t (aQ N ++ b)).length=512:=fj (by omega);have yQ:=iY (l:=be t (aQ N ++ b)) jL;have F8:=all_oneCell_toArray (cB (be t (aQ N ++ b)));have DG:(bs (be t (aQ N ++ b))).length=512:=by rw [bs,List.length_map,jL]
 obtain⟨G,C⟩:=bQ (bs (be t (aQ N ++ b)));rw [<-C] at J yQ F8 DG;have W:=yh C;clear Xp ny T6 jd C;generalize 8+q=Q8 at*;go_wp2_with fail;refine bE J λf vU=>?_;have Bq:=wO.o.trans (vU.mono wO.o.size);have T7:(f.alloc (.cells bh 211)).heap[f.heap.size]? =some (.cells bh 211 (0,0)):=heap_alloc_new _ _;have dZ:=cE T7 cI;rw [<-DG] at dZ;have aZ:=eE (l:=be t (aQ N ++ b)) T7 (by rw [cI,jL]);rw [<-W.o] at aZ;have ahV:=Bq.size;have M7:bW w (f.alloc (.cells bh 211)):=Bq.alloc Bq.size _;have i:=M7.trans ((aa.setCells (F:=λj=>j=f.heap.size) rfl G 0 _).below (λj Z=>by omega) M7.size);rw [Qt.o] at aZ;have X:=yh (λj=>aF (aZ.au (w':=((f.alloc (.cells bh 211)).setCells f.heap.size 0 G).drewN j) rfl) (aF Bq.size (below_drewN i j)));clear J vU Bq T7 aZ M7 i wO;go_wp2_with (refine wpList_store_mid rfl 211 _ _ rfl f.heap.size 0 G.toArray rfl rfl ?h1 ?h2 F8 ?_);case h1=>simpa using dZ
 case h2=>simpa using yQ
 go_quiet (fail);go_wp2;go_ret3;exact⟨f.heap.size,rfl,X.o _⟩
theorem DK (l r:List Int):(am l r).1<=1:=by
 unfold am;split
 .simp
 .split
  .simp
  .split <;> simp
theorem lr {r:List Int} (b:l.length=512) (c:r.length=512):((am l r).2.2.2=0/\0<(am l r).2.1)\/((am l r).2.2.2=30/\(am l r).2.1=0/\(am l r).1=0):=by
 rw [lN b c];by_cases q:(sanchor l).1=0/\(sanchor r).1=0
 .rw [aE q];exact .inr ⟨rfl,rfl,rfl⟩
 .rw [aA q];by_cases a:(sanchor l).1<(sanchor r).1
  .rw [aE a];exact .inl ⟨rfl,by simp only;omega⟩
  .rw [aA a];exact .inl ⟨rfl,by simp only;omega⟩
theorem Nf (a:Option Addr) (n c:Nat) (l:List Int) (k:Option Addr) (m d:Nat) (r:List Int) (j:Option Addr) (q o:Nat) (b:List Int) (num:Int) (w:World) (s:Src w a n l) (bo:Src w k m r) (y:Bytes l) (z:Bytes r)
    (fB:Src w j q b) (LX:Bytes b) (tk:j=none->o=0) (D:num<=9223372036854775807):
  Calls prog 148 #[.slice a n c, .slice k m d,iV num, .slice j q o] w λe w'=>∃v,e= .returned (.tuple #[iV (((aN l r num b).1:Nat):Int),v,iV (((aN l r num b).2.2:Nat):Int)])/\xy w' w.heap.size v (aN l r num b).2.1/\bW w w':=by
 obtain⟨A9,uS,DM⟩:=jw s.1 bo.1 fB.1;by_cases kC:n=512/\m=512
 .by_cases p:num<1
  .refine(Na a n c l k m d r j q o num w s bo kC p).mono ?_;rintro e w' ⟨rfl,i⟩;have f:aN l r num b=(0, [],1):=(by unfold aN;rw [aA (by omega),aE p]);rw [f];exact⟨_,rfl,xy.nil _ _,i⟩
  .by_cases C:496<q
   .refine(Nb a n c l k m d r j q o num w s bo kC p C).mono ?_;rintro e w' ⟨rfl,i⟩;have f:aN l r num b=(0, [],7):=(by unfold aN;rw [aA (by omega),aA p,aE (by omega)]);rw [f];exact⟨_,rfl,xy.nil _ _,i⟩
   .by_cases t:num<=(((am l r).2.1:Nat):Int)
    .refine(Nc a n c l k m d r j q o num w s bo y z kC p (by omega) t).mono ?_;rintro e w' ⟨rfl,i⟩;have f:aN l r num b=(0, [],31):=(by unfold aN;rw [aA (by omega),aA p,aA (by omega)];simp only;rw [aE t]);rw [f];exact⟨_,rfl,xy.nil _ _,i⟩
    .obtain⟨N,u⟩:∃N:Nat,num=(N:Int):=⟨num.toNat,by omega⟩;have A:=DK l r;have iZ:=lr (l:=l) (r:=r) (by omega) (by omega);have sX:(aQ N ++ b).length<=504:=(by rw [dT,dN];omega);by_cases xZ:(am l r).2.2.2=0/\(am l r).1=0
     .refine(Ne a n c l k m d r j q o b num w s bo y z kC N u (by omega) (by omega) fB LX (by omega) tk (by omega) A (by rw [aA (by omega)];omega)).mono ?_;rintro e w' ⟨g,rfl,aZ,x,i⟩;have f:aN l r num b=(1,be (cD (r.getD 0 0) (r.getD 511 0)) (aQ N ++ b),0):=(by unfold aN;rw [aA (by omega),aA p,aA (by omega)];simp only;rw [aA t,aE xZ,u,Int.toNat_natCast]);rw [f];have:=aZ.lst x;rw [fj sX] at this;exact⟨_,rfl,this,i⟩
     .refine(Nd a n c l k m d r j q o b num w s bo y z kC N u (by omega) (by omega) fB LX (by omega) tk (by omega) A (by split <;> omega)).mono ?_;rintro e w' ⟨g,rfl,aZ,x,i⟩;have f:aN l r num b=(0,be (cD (l.getD 0 0) (l.getD 511 0)) (aQ N ++ b),0):=(by unfold aN;rw [aA (by omega),aA p,aA (by omega)];simp only;rw [aA t,aA xZ,u,Int.toNat_natCast]);rw [f];have:=aZ.lst x;rw [fj sX] at this;exact⟨_,rfl,this,i⟩
 .refine(M9 a n c l k m d r j q o num w s bo kC).mono ?_;rintro e w' ⟨rfl,i⟩;have f:aN l r num b=(0, [],2):=by unfold aN;rw [aE (by omega)]
  rw [f];exact⟨_,rfl,xy.nil _ _,i⟩
theorem qI (a:Option Addr) (n c:Nat) (l:List Int) (f:Option Addr) (m d:Nat) (r:List Int) (o:Option Addr) (q p:Nat) (num:Int) (w:World) (z:Src w a n l) (bo:Src w f m r) (t:Bytes l) (y:Bytes r) (b:Int)
    (h:((am l r).2.2.2=2/\b=2)\/((am l r).2.2.2≠2/\num<1/\b=1)\/((am l r).2.2.2≠2/\¬num<1/\496<q/\b=7)\/((am l r).2.2.2=0/\¬num<1/\¬496<q/\num<=(((am l r).2.1:Nat):Int)/\b=31)):
  Calls prog 163 #[.slice a n c, .slice f m d,iV num, .slice o q p] w λe w'=>e= .returned (.tuple #[iV 0, .slice none 0 0,iV b])/\bW w w':=by
 have j:=mn a n c l f m d r w z bo t y;generalize am l r=T at*;obtain⟨A,B,D,E⟩:=T
 dsimp only at j h
 go_in;go_wp2_with fail;refine j.mono ?_;rintro e w1 ⟨v,rfl,_,aq⟩;have h:=h;rcases h with ⟨rfl,rfl⟩|⟨s,k,rfl⟩|⟨s,k,x,rfl⟩|⟨rfl,k,x,u,rfl⟩
 .go_wp2;go_ret3;exact⟨rfl,aq⟩
 .have g:((E:Int) == 2)=false:=by rw [eG];omega
  go_wp2;go_ret3;exact⟨rfl,aq⟩
 .have g:((E:Int) == 2)=false:=by rw [eG];omega
  have i:496<(q:Int):=by omega
  go_wp2;go_ret3;exact⟨rfl,aq⟩
 .have i:¬496<(q:Int):=by omega
  go_wp2;go_ret3;exact⟨rfl,aq⟩
theorem JK (b1 z c:Nat) (l:List Int) (b2 L d:Nat) (r:List Int) (U:Option Addr) (q Z:Nat) (a:List Int) (N:Nat) (num:Int) (dP:num=(N:Int)) (w:World) (y:Src w (some (aD b1 z)) 512 l) (bo:Src w (some (aD b2 L)) 512 r) (K:Bytes l) (hr:Bytes r)
    (fB:Src w U q a) (LX:Bytes a) (uU:1<=N) (Xs:N<9223372036854775808) (hq:q<=496) (bt:(am l r).2.1<N) (I:¬((am l r).2.2.2=0/\(am l r).1=0)):
  Calls prog 163 #[.slice (some (aD b1 z)) 512 c, .slice (some (aD b2 L)) 512 d,iV num, .slice U q Z] w λe w'=>∃v,e= .returned (.tuple #[iV 0,v,iV 0])/\Own w' w.heap.size v (be (cD (l.getD 0 0) (l.getD 511 0)) (aQ N ++ a))/\bW w w':=by
 have G:=mn (some (aD b1 z)) 512 c l (some (aD b2 L)) 512 d r w y bo K hr;have u:(am l r).2.2.2≠2:=by rcases lr y.1 bo.1 with h|h <;> omega
 obtain⟨S,Y9,C,sX⟩:=cM (yh y) y.1 (yh fB) fB.1;generalize am l r=T at*;obtain⟨A,B,D,E⟩:=T
 dsimp only at G bt I u
 have hE':((E:Int) == 2)=false:=by rw [eG];omega
 have ahX:¬num<1:=by omega
 have ahY:¬num<=(B:Int):=by omega
 have R:=yh dP;clear dP;have X:=yh I;clear y bo fB I bt u;go_in;go_wp2_with fail;refine G.mono ?_;rintro e w1 ⟨v,rfl,_,aq⟩;have cN:=yh aq;have dr:=aq.size;clear G aq;by_cases H:E=0
 .subst H;have Cp:((A:Int) == 0)=false:=by rw [eG];have hA:A≠0:=λh=>X.o ⟨rfl,h⟩;omega
  rw [show (((0:Nat)):Int)=0 by rfl];go_wp2;go_loopw [15,16,17] (λv x i wr=>∃k:Nat,k<=8/\i=iV k/\x=iV ((N / 256 ^ k:Nat):Int)/\Own wr w1.heap.size v (leb k N)/\bW w1 wr) (λ_ _ i _=>8-(intOf i).toNat);case atStart=>exact⟨0,dU _,rfl,by rw [R.o];simp,Own.nil _ _,bi _ _⟩
  case round=>
   obtain⟨k,J,rfl,rfl,az,dO⟩:=hrel;have bq:=yh az;have b:=yh dO;have g:=dO.size;clear az dO;by_cases bm:k<8
   .have cw:(k:Int)<8:=(by omega);have s:N / 256 ^ (k+1)=N / 256 ^ k / 256:=(by rw [Nat.div_div_eq_div_mul,Nat.pow_succ]);have n:=iX k N;rw [show (2:Nat) ^ (8*k)=256 ^ k by rw [Nat.pow_mul]] at n;have hQ:N / 256 ^ k<9223372036854775808:=Nat.lt_of_le_of_lt (Nat.div_le_self _ _) Xs;generalize N / 256 ^ k=Q at*;have q1:((Q:Int)).tmod 256=((Q%256:Nat):Int):=(by rw [Int.tmod_eq_emod_of_nonneg (by omega)];omega);have q2:((Q:Int)).tdiv 256=((Q / 256:Nat):Int):=(by rw [Int.tdiv_eq_ediv_of_nonneg (by omega)];omega);have Pb:=yh s;have LT:=yh n;have jT:=aH k N;clear s n;go_wp2_with (at_builtin;refine b9 rfl _ _ rfl w1.heap.size u15 _ _ rfl rfl bq.o ?b1 ?b2 ?_);case b1=>omega
    case b2=>exact g
    intro p w' f eC;have m:Yh (Own w' w1.heap.size p (leb (k+1) N)):=(by rw [LT.o];exact f);have wN:=yh (b.o.trans (eC.mono (bP _)));clear f eC bq b LT;go_wp2;go_roundw;case rel=>exact⟨k+1,by omega,by go_num,by rw [Pb.o];simp,m.o,wN.o⟩
    case measure=>simp [intOf];omega
   .have cw:¬(k:Int)<8:=(by omega);obtain rfl:k=8:=(by omega);rw [U6] at bq;have iW:Yh (Own wr w1.heap.size u15 (aQ N ++ a.take 0)):=(by show Own wr w1.heap.size u15 (aQ N ++ []);rw [List.append_nil];exact bq.o);clear bq;go_wp2;go_loopw [15,18] (λv i wx=>∃k:Nat,k<=q/\i=iV k/\Own wx w1.heap.size v (aQ N ++ a.take k)/\bW w1 wx) (λ_ i _=>q-(intOf i).toNat);case atStart=>exact⟨0,dU _,rfl,iW.o,b.o⟩
    case round=>
     clear iW b g;obtain⟨k,J,rfl,az,dO⟩:=hrel;have bq:=yh az;have b:=yh dO;have g:=dO.size;clear az dO;have jT:(aQ N ++ a.take k).length=8+k:=(by rw [dT,dN,List.length_take];omega);by_cases bm:k<q
     .have cw:(k:Int)<(q:Int):=(by omega);obtain⟨Y,o3,rfl⟩:=cT C.o (by omega);have mY:=C.o.2.2 _ rfl k bm;rw [aK] at mY;have mY:=cell_later (cN.o.trans (b.o.mono dr)) mY;have Ci:=yh (jW a k (by omega));generalize a.getD k 0=x at*;go_wp2_with (at_builtin;refine b9 rfl _ _ rfl w1.heap.size u15 _ x rfl rfl bq.o ?b1 ?b2 ?_);case b1=>omega
      case b2=>exact g
      intro p w' f eC;have m:Yh (Own w' w1.heap.size p (aQ N ++ a.take (k+1))):=(by rw [<-Ci.o];first|exact f|(rw [<-List.append_assoc];exact f));have wN:=yh (b.o.trans (eC.mono (bP _)));clear f eC bq b Ci;go_wp2;go_roundw;case rel=>exact⟨k+1,by omega,by go_num,m.o,wN.o⟩
      case measure=>simp [intOf];omega
     .have cw:¬(k:Int)<(q:Int):=(by omega);have t:a.take k=a:=nh (by omega);rw [t] at bq jT;obtain⟨O,P,rfl,sb,_,_⟩:=bq.o.src;have QH:=cN.o.trans (b.o.mono dr);have MY:(aQ N ++ a).length<=504:=(by omega);have j:=qF (some (aD b1 z)) 512 c l O (aQ N ++ a).length P (aQ N ++ a) wr (S.o.later QH) sb ((iC N).append LX) K;rw [yJ Y9 MY] at j
      dsimp only at j
      have l9:=yh QH;clear t sb QH jT bq b;generalize (aQ N ++ a).length=W at*;go_wp2_with fail;refine j.mono ?_;rintro e w5 ⟨M,rfl,FR,ff⟩;have F:=yh (aF (Own.down FR l9.o.size) (l9.o.trans (ff.mono l9.o.size)));clear j FR ff;go_wp2;go_ret3;exact⟨M,rfl,F.o⟩
 .have aoI:((E:Int) == 0)=false:=by rw [eG];omega
  go_wp2;go_loopw [15,16,17] (λv x i wr=>∃k:Nat,k<=8/\i=iV k/\x=iV ((N / 256 ^ k:Nat):Int)/\Own wr w1.heap.size v (leb k N)/\bW w1 wr) (λ_ _ i _=>8-(intOf i).toNat);case atStart=>exact⟨0,dU _,rfl,by rw [R.o];simp,Own.nil _ _,bi _ _⟩
  case round=>
   obtain⟨k,J,rfl,rfl,az,dO⟩:=hrel;have bq:=yh az;have b:=yh dO;have g:=dO.size;clear az dO;by_cases bm:k<8
   .have cw:(k:Int)<8:=(by omega);have s:N / 256 ^ (k+1)=N / 256 ^ k / 256:=(by rw [Nat.div_div_eq_div_mul,Nat.pow_succ]);have n:=iX k N;rw [show (2:Nat) ^ (8*k)=256 ^ k by rw [Nat.pow_mul]] at n;have hQ:N / 256 ^ k<9223372036854775808:=Nat.lt_of_le_of_lt (Nat.div_le_self _ _) Xs;generalize N / 256 ^ k=Q at*;have q1:((Q:Int)).tmod 256=((Q%256:Nat):Int):=(by rw [Int.tmod_eq_emod_of_nonneg (by omega)];omega);have q2:((Q:Int)).tdiv 256=((Q / 256:Nat):Int):=(by rw [Int.tdiv_eq_ediv_of_nonneg (by omega)];omega);have Pb:=yh s;have LT:=yh n;have jT:=aH k N;clear s n;go_wp2_with (at_builtin;refine b9 rfl _ _ rfl w1.heap.size u15 _ _ rfl rfl bq.o ?b1 ?b2 ?_);case b1=>omega
    case b2=>exact g
    intro p w' f eC;have m:Yh (Own w' w1.heap.size p (leb (k+1) N)):=(by rw [LT.o];exact f);have wN:=yh (b.o.trans (eC.mono (bP _)));clear f eC bq b LT;go_wp2;go_roundw;case rel=>exact⟨k+1,by omega,by go_num,by rw [Pb.o];simp,m.o,wN.o⟩
    case measure=>simp [intOf];omega
   .have cw:¬(k:Int)<8:=(by omega);obtain rfl:k=8:=(by omega);rw [U6] at bq;have iW:Yh (Own wr w1.heap.size u15 (aQ N ++ a.take 0)):=(by show Own wr w1.heap.size u15 (aQ N ++ []);rw [List.append_nil];exact bq.o);clear bq;go_wp2;go_loopw [15,18] (λv i wx=>∃k:Nat,k<=q/\i=iV k/\Own wx w1.heap.size v (aQ N ++ a.take k)/\bW w1 wx) (λ_ i _=>q-(intOf i).toNat);case atStart=>exact⟨0,dU _,rfl,iW.o,b.o⟩
    case round=>
     clear iW b g;obtain⟨k,J,rfl,az,dO⟩:=hrel;have bq:=yh az;have b:=yh dO;have g:=dO.size;clear az dO;have jT:(aQ N ++ a.take k).length=8+k:=(by rw [dT,dN,List.length_take];omega);by_cases bm:k<q
     .have cw:(k:Int)<(q:Int):=(by omega);obtain⟨Y,o3,rfl⟩:=cT C.o (by omega);have mY:=C.o.2.2 _ rfl k bm;rw [aK] at mY;have mY:=cell_later (cN.o.trans (b.o.mono dr)) mY;have Ci:=yh (jW a k (by omega));generalize a.getD k 0=x at*;go_wp2_with (at_builtin;refine b9 rfl _ _ rfl w1.heap.size u15 _ x rfl rfl bq.o ?b1 ?b2 ?_);case b1=>omega
      case b2=>exact g
      intro p w' f eC;have m:Yh (Own w' w1.heap.size p (aQ N ++ a.take (k+1))):=(by rw [<-Ci.o];first|exact f|(rw [<-List.append_assoc];exact f));have wN:=yh (b.o.trans (eC.mono (bP _)));clear f eC bq b Ci;go_wp2;go_roundw;case rel=>exact⟨k+1,by omega,by go_num,m.o,wN.o⟩
      case measure=>simp [intOf];omega
     .have cw:¬(k:Int)<(q:Int):=(by omega);have t:a.take k=a:=nh (by omega);rw [t] at bq jT;obtain⟨O,P,rfl,sb,_,_⟩:=bq.o.src;have QH:=cN.o.trans (b.o.mono dr);have MY:(aQ N ++ a).length<=504:=(by omega);have j:=qF (some (aD b1 z)) 512 c l O (aQ N ++ a).length P (aQ N ++ a) wr (S.o.later QH) sb ((iC N).append LX) K;rw [yJ Y9 MY] at j
      dsimp only at j
      have l9:=yh QH;clear t sb QH jT bq b;generalize (aQ N ++ a).length=W at*;go_wp2_with fail;refine j.mono ?_;rintro e w5 ⟨M,rfl,FR,ff⟩;have F:=yh (aF (Own.down FR l9.o.size) (l9.o.trans (ff.mono l9.o.size)));clear j FR ff;go_wp2;go_ret3;exact⟨M,rfl,F.o⟩
theorem JL (b1 C c:Nat) (l:List Int) (b2 p d:Nat) (r:List Int) (I:Option Addr) (q R:Nat) (a:List Int) (N:Nat) (num:Int) (dP:num=(N:Int)) (w:World) (z:Src w (some (aD b1 C)) 512 l) (bo:Src w (some (aD b2 p)) 512 r) (W:Bytes l) (L:Bytes r)
    (fB:Src w I q a) (LX:Bytes a) (uU:1<=N) (Xs:N<9223372036854775808) (hq:q<=496) (bt:(am l r).2.1<N) (y:(am l r).2.2.2=0/\(am l r).1=0):
  Calls prog 163 #[.slice (some (aD b1 C)) 512 c, .slice (some (aD b2 p)) 512 d,iV num, .slice I q R] w λe w'=>∃v,e= .returned (.tuple #[iV 1,v,iV 0])/\Own w' w.heap.size v (be (cD (r.getD 0 0) (r.getD 511 0)) (aQ N ++ a))/\bW w w':=by
 have u:=mn (some (aD b1 C)) 512 c l (some (aD b2 p)) 512 d r w z bo W L;have j:(am l r).2.2.2≠2:=by rcases lr z.1 bo.1 with h|h <;> omega
 obtain⟨P,Y9,G,sX⟩:=cM (yh bo) bo.1 (yh fB) fB.1;generalize am l r=T at*;obtain⟨A,B,D,E⟩:=T
 dsimp only at u bt y j
 have S:((E:Int) == 2)=false:=by rw [eG];omega
 have ahX:¬num<1:=by omega
 have ahY:¬num<=(B:Int):=by omega
 have O:=yh dP;clear dP;have H:=yh y;clear z bo fB y bt j;go_in;go_wp2_with fail;refine u.mono ?_;rintro e w1 ⟨v,rfl,_,aq⟩;have cN:=yh aq;have dr:=aq.size;clear u aq;by_cases g:E=0
 .subst g;have Cp:=H.o.2;subst Cp;rw [show (((0:Nat)):Int)=0 by rfl];go_wp2;go_loopw [15,16,17] (λv x i wr=>∃k:Nat,k<=8/\i=iV k/\x=iV ((N / 256 ^ k:Nat):Int)/\Own wr w1.heap.size v (leb k N)/\bW w1 wr) (λ_ _ i _=>8-(intOf i).toNat);case atStart=>exact⟨0,dU _,rfl,by rw [O.o];simp,Own.nil _ _,bi _ _⟩
  case round=>
   obtain⟨k,U,rfl,rfl,az,dO⟩:=hrel;have bq:=yh az;have b:=yh dO;have m:=dO.size;clear az dO;by_cases bm:k<8
   .have cw:(k:Int)<8:=(by omega);have J:N / 256 ^ (k+1)=N / 256 ^ k / 256:=(by rw [Nat.div_div_eq_div_mul,Nat.pow_succ]);have t:=iX k N;rw [show (2:Nat) ^ (8*k)=256 ^ k by rw [Nat.pow_mul]] at t;have hQ:N / 256 ^ k<9223372036854775808:=Nat.lt_of_le_of_lt (Nat.div_le_self _ _) Xs;generalize N / 256 ^ k=Q at*;have q1:((Q:Int)).tmod 256=((Q%256:Nat):Int):=(by rw [Int.tmod_eq_emod_of_nonneg (by omega)];omega);have q2:((Q:Int)).tdiv 256=((Q / 256:Nat):Int):=(by rw [Int.tdiv_eq_ediv_of_nonneg (by omega)];omega);have Pb:=yh J;have LT:=yh t;have jT:=aH k N;clear J t;go_wp2_with (at_builtin;refine b9 rfl _ _ rfl w1.heap.size u15 _ _ rfl rfl bq.o ?b1 ?b2 ?_);case b1=>omega
    case b2=>exact m
    intro F w' f eC;have s:Yh (Own w' w1.heap.size F (leb (k+1) N)):=(by rw [LT.o];exact f);have wN:=yh (b.o.trans (eC.mono (bP _)));clear f eC bq b LT;go_wp2;go_roundw;case rel=>exact⟨k+1,by omega,by go_num,by rw [Pb.o];simp,s.o,wN.o⟩
    case measure=>simp [intOf];omega
   .have cw:¬(k:Int)<8:=(by omega);obtain rfl:k=8:=(by omega);rw [U6] at bq;have iW:Yh (Own wr w1.heap.size u15 (aQ N ++ a.take 0)):=(by show Own wr w1.heap.size u15 (aQ N ++ []);rw [List.append_nil];exact bq.o);clear bq;go_wp2;go_loopw [15,18] (λv i wx=>∃k:Nat,k<=q/\i=iV k/\Own wx w1.heap.size v (aQ N ++ a.take k)/\bW w1 wx) (λ_ i _=>q-(intOf i).toNat);case atStart=>exact⟨0,dU _,rfl,iW.o,b.o⟩
    case round=>
     clear iW b m;obtain⟨k,U,rfl,az,dO⟩:=hrel;have bq:=yh az;have b:=yh dO;have m:=dO.size;clear az dO;have jT:(aQ N ++ a.take k).length=8+k:=(by rw [dT,dN,List.length_take];omega);by_cases bm:k<q
     .have cw:(k:Int)<(q:Int):=(by omega);obtain⟨b3,o3,rfl⟩:=cT G.o (by omega);have mY:=G.o.2.2 _ rfl k bm;rw [aK] at mY;have mY:=cell_later (cN.o.trans (b.o.mono dr)) mY;have Ci:=yh (jW a k (by omega));generalize a.getD k 0=x at*;go_wp2_with (at_builtin;refine b9 rfl _ _ rfl w1.heap.size u15 _ x rfl rfl bq.o ?b1 ?b2 ?_);case b1=>omega
      case b2=>exact m
      intro F w' f eC;have s:Yh (Own w' w1.heap.size F (aQ N ++ a.take (k+1))):=(by rw [<-Ci.o];first|exact f|(rw [<-List.append_assoc];exact f));have wN:=yh (b.o.trans (eC.mono (bP _)));clear f eC bq b Ci;go_wp2;go_roundw;case rel=>exact⟨k+1,by omega,by go_num,s.o,wN.o⟩
      case measure=>simp [intOf];omega
     .have cw:¬(k:Int)<(q:Int):=(by omega);have K:a.take k=a:=nh (by omega);rw [K] at bq jT;obtain⟨Y,Z,rfl,sb,_,_⟩:=bq.o.src;have QH:=cN.o.trans (b.o.mono dr);have MY:(aQ N ++ a).length<=504:=(by omega);have n:=qF (some (aD b2 p)) 512 d r Y (aQ N ++ a).length Z (aQ N ++ a) wr (P.o.later QH) sb ((iC N).append LX) L;rw [yJ Y9 MY] at n
      dsimp only at n
      have l9:=yh QH;clear K sb QH jT bq b;generalize (aQ N ++ a).length=BL at*;go_wp2_with fail;refine n.mono ?_;rintro e w5 ⟨X,rfl,FR,ff⟩;have M:=yh (aF (Own.down FR l9.o.size) (l9.o.trans (ff.mono l9.o.size)));clear n FR ff;go_wp2;go_ret3;exact⟨X,rfl,M.o⟩
 .exact absurd H.o.1 g
theorem JM (a:Option Addr) (n c:Nat) (l:List Int) (p:Option Addr) (m d:Nat) (r:List Int) (g:Option Addr) (q k:Nat) (b:List Int) (num:Int) (w:World) (j:Src w a n l) (bo:Src w p m r) (s:Bytes l) (t:Bytes r)
    (fB:Src w g q b) (LX:Bytes b) (F:num<=9223372036854775807):
  Calls prog 163 #[.slice a n c, .slice p m d,iV num, .slice g q k] w λe w'=>∃v,e= .returned (.tuple #[iV (((aN l r num b).1:Nat):Int),v,iV (((aN l r num b).2.2:Nat):Int)])/\Own w' w.heap.size v (aN l r num b).2.1/\bW w w':=by
 obtain⟨A9,uS,DM⟩:=jw j.1 bo.1 fB.1;by_cases kC:n=512/\m=512
 .have iZ:=lr (l:=l) (r:=r) (by omega) (by omega);by_cases i:num<1
  .refine(qI a n c l p m d r g q k num w j bo s t 1 (.inr (.inl ⟨by omega,i,rfl⟩))).mono ?_;rintro e w' ⟨rfl,o⟩;have f:aN l r num b=(0, [],1):=(by unfold aN;rw [aA (by omega),aE i]);rw [f];exact⟨_,rfl,Own.nil _ _,o⟩
  .by_cases A:496<q
   .refine(qI a n c l p m d r g q k num w j bo s t 7 (.inr (.inr (.inl ⟨by omega,i,A,rfl⟩)))).mono ?_;rintro e w' ⟨rfl,o⟩;have f:aN l r num b=(0, [],7):=(by unfold aN;rw [aA (by omega),aA i,aE (by omega)]);rw [f];exact⟨_,rfl,Own.nil _ _,o⟩
   .by_cases u:num<=(((am l r).2.1:Nat):Int)
    .refine(qI a n c l p m d r g q k num w j bo s t 31 (.inr (.inr (.inr ⟨by omega,i,A,u,rfl⟩)))).mono ?_;rintro e w' ⟨rfl,o⟩;have f:aN l r num b=(0, [],31):=(by unfold aN;rw [aA (by omega),aA i,aA (by omega)];simp only;rw [aE u]);rw [f];exact⟨_,rfl,Own.nil _ _,o⟩
    .obtain⟨N,x⟩:∃N:Nat,num=(N:Int):=⟨num.toNat,by omega⟩;obtain⟨rfl,rfl⟩:=kC;obtain⟨y,C,rfl⟩:=cT j (by omega);obtain⟨z,D,rfl⟩:=cT bo (by omega);by_cases xZ:(am l r).2.2.2=0/\(am l r).1=0
     .have f:aN l r num b=(1,be (cD (r.getD 0 0) (r.getD 511 0)) (aQ N ++ b),0):=(by unfold aN;rw [aA (by omega),aA i,aA (by omega)];simp only;rw [aA u,aE xZ,x,Int.toNat_natCast]);rw [f];exact JL y C c l z D d r g q k b N num x w j bo s t fB LX (by omega) (by omega) (by omega) (by omega) xZ
     .have f:aN l r num b=(0,be (cD (l.getD 0 0) (l.getD 511 0)) (aQ N ++ b),0):=(by unfold aN;rw [aA (by omega),aA i,aA (by omega)];simp only;rw [aA u,aA xZ,x,Int.toNat_natCast]);rw [f];exact JK y C c l z D d r g q k b N num x w j bo s t fB LX (by omega) (by omega) (by omega) (by omega) xZ
 .have E:am l r=(0,0, [],2):=by unfold am;rw [aE (by omega)]
  refine(qI a n c l p m d r g q k num w j bo s t 2 (.inl ⟨by rw [E],rfl⟩)).mono ?_;rintro e w' ⟨rfl,o⟩;have f:aN l r num b=(0, [],2):=by unfold aN;rw [aE (by omega)]
  rw [f];exact⟨_,rfl,Own.nil _ _,o⟩
theorem rC (l r:List Int):(am l r).2.1<=9223372036854775807:=by
 have a:=kn l;have b:=kn r;unfold am;split
 .simp
 .split
  .simp
  .split <;> simp only <;> omega
theorem U8 (s:Nat) (x:Int) (h:S.fuse=0):S.rd s x=(3,S, []):=aE h
theorem QI (h:S.fuse≠0) (a:k<s):S.rd s (k:Int)=(0,S.read,S.now k):=by
 unfold DS.rd;rw [aA h,aA (by omega)];simp
theorem Out.low {d b:Nat} (h:Out d w l v) (i:b<=d):Out b w l v:=by
 obtain⟨a,c,rfl,f,g⟩:=h;exact⟨a,c,rfl,f,λx e=>jQ i (g x e)⟩
theorem aa.boxed (F:Nat->Prop) (o:Obj):aa F w (w.alloc o):=aa.alloc F w o
theorem Ng (h:aP w F p s S) (f n:Int) (aT:S.puts.length+1<=4000000000000) (b:S.fuse=0):
  Calls prog 147 #[kw p f n] w λe w'=>e= .returned (.tuple #[.slice none 0 0, .slice none 0 0,iV 3])/\aP w' F p s S/\aa F w w':=by
 have a:=tt (h.boxed (.cells #[.pointer (some ⟨p,0,none⟩), .int .i64 f, .int .i64 n] 144)) f aT;rw [U8 _ _ b] at a;go_in;go_wp2_with fail;refine a.mono ?_;rintro e w1 ⟨v,rfl,_,hd,c⟩;go_wp2;go_ret3;exact⟨rfl,hd,(aa.boxed (w:=w) F (.cells #[.pointer (some ⟨p,0,none⟩), .int .i64 f, .int .i64 n] 144)).trans c (λ_ h=> .inl h)⟩
theorem yR {o:Obj} (b:∀k,F k->k<w.heap.size) (a:aa F (w.alloc o) w1):w1.heap[w.heap.size]? =some o:=by
 rw [a.block w.heap.size (by simp) (λh=>by have:=b _ h;omega)];exact heap_alloc_new _ _
theorem LZ (h:aP w F p s S) (f:Nat) (n:Int) (aT:S.puts.length+1<=4000000000000) (l:S.fuse≠0) (o:f+1<s):
  Calls prog 147 #[kw p f n] w λe w'=>∃v1 c,e= .returned (.tuple #[v1,c,iV 0])/\Out w.heap.size w' (S.now f) v1/\Out w.heap.size w' (S.now (f+1)) c/\aP w' F p s S.read.read/\aa F w w':=by
 have i:=tt (h.boxed (.cells #[.pointer (some ⟨p,0,none⟩), .int .i64 f, .int .i64 n] 144)) f aT;rw [QI l (by omega)] at i;have bo:=h.ok.hi;have g:=h.lt;go_in;go_wp2_with fail;refine i.mono ?_;rintro e w1 ⟨v,rfl,m,hd,a⟩;have dF:=yR g a;have Jl:=aL dF;have A2:=bD dF;have j:=tt hd ((f+1:Nat):Int) (by simpa [DS.read] using aT);rw [QI (S:=S.read) l o] at j;have d:=((aa.boxed (w:=w) F (.cells #[.pointer (some ⟨p,0,none⟩), .int .i64 f, .int .i64 n] 144)).trans a (λ_ h=> .inl h));go_wp2_with fail;refine j.mono ?_;rintro e q ⟨c,rfl,jo,cC,aX⟩;have b:=(m.keeps aX (λk a=>by have:=g k a;simp;omega));go_wp2;go_ret3;exact⟨_,_,rfl,b.low (by simp),jo.low d.size,cC,d.trans aX (λ_ h=> .inl h)⟩
def gU (l r:List Int):Nat×Nat×Nat:=
 if (am l r).2.2.2≠0\/0<(am l r).2.2.1.length\/(am l r).2.1 / 4294967296<1\/1073741824<(am l r).2.1 / 4294967296\/1073741824<(am l r).2.1%4294967296 then (0,0,6)
 else ((am l r).2.1 / 4294967296,(am l r).2.1%4294967296,0)
theorem Nh (a:Nat) (d:a<9223372036854775808):bits .and .i64 (a:Int) 4294967295=((a%4294967296:Nat):Int):=by
 have b:(BitVec.ofInt 64 (a:Int)).toNat=a:=by rw [BitVec.ofInt_natCast,BitVec.toNat_ofNat];exact Nat.mod_eq_of_lt (by omega)
 have c:(BitVec.ofInt 64 (4294967295:Int)).toNat=2 ^ 32-1:=by decide
 show IntKind.i64.wrap ((BitVec.ofInt 64 (a:Int) &&& BitVec.ofInt 64 (4294967295:Int)).toNat:Int)=_;rw [BitVec.toNat_and,b,c,IntKind.wrap_i64,Nat.and_two_pow_sub_one_eq_mod];omega
theorem JN (h:aP w F p s S) (f:Nat) (n:Int) (aT:S.puts.length+1<=4000000000000) (A:S.fuse≠0) (C:f+1<s) (aq:Bytes (S.now f)) (aW:Bytes (S.now (f+1))):
  Calls prog 152 #[kw p f n] w λe w'=>e= .returned (.tuple #[iV ((gU (S.now f) (S.now (f+1))).1:Int),iV ((gU (S.now f) (S.now (f+1))).2.1:Int),iV ((gU (S.now f) (S.now (f+1))).2.2:Int)])/\aP w' F p s S.read.read/\aa F w w':=by
 have m:=aa.boxed (w:=w) F (.cells #[.pointer (some ⟨p,0,none⟩), .int .i64 f, .int .i64 n] 144);have k:=LZ (h.boxed (.cells #[.pointer (some ⟨p,0,none⟩), .int .i64 f, .int .i64 n] 144)) f n aT A C;have L:=rC (l:=S.now f) (r:=S.now (f+1));have o:=λb H d c I g w1 ed bo=>FY b H d (S.now f) c I g (S.now (f+1)) w1 ed bo aq aW;unfold gU;generalize (am (S.now f) (S.now (f+1))).2.1=N at*;generalize (am (S.now f) (S.now (f+1))).2.2.2=E at*;generalize (am (S.now f) (S.now (f+1))).2.2.1=D at*;generalize (am (S.now f) (S.now (f+1))).1=K at*;have G:(N:Int) / 4294967296=((N / 4294967296:Nat):Int):=by omega
 have z:=Nh N (by omega);have J:N%4294967296<4294967296:=Nat.mod_lt _ (by omega);have O:N / 4294967296<2147483648:=by omega
 generalize N / 4294967296=Q at*;generalize N%4294967296=M at*;by_cases P:E≠0
 .rw [aE (by omega)];go_in;go_wp2_with fail;refine k.mono ?_;rintro e w1 ⟨u,x,rfl,tz,jo,hd,j⟩;obtain⟨b,d,rfl,ed,_⟩:=tz;obtain⟨c,g,rfl,bo,_⟩:=jo;have i:=(m.trans j (λ_ h=> .inl h));go_wp2_with fail;refine(o b _ d c _ g w1 ed bo).mono ?_;rintro e y ⟨v,rfl,⟨q,t,rfl,_,_,_⟩,a⟩;have sj:=(hd.au (aa.ah (λ_=>False) a) (λ_ _ h=>h));go_wp2;go_ret3;exact⟨rfl,sj,i.trans (aa.ah (λ_=>False) a) (λ_ h=>h.elim)⟩
 .obtain rfl:E=0:=by omega
  by_cases R:0<D.length
  .rw [aE (by omega)];go_in;go_wp2_with fail;refine k.mono ?_;rintro e w1 ⟨u,x,rfl,tz,jo,hd,j⟩;obtain⟨b,d,rfl,ed,_⟩:=tz;obtain⟨c,g,rfl,bo,_⟩:=jo;have i:=(m.trans j (λ_ h=> .inl h));go_wp2_with fail;refine(o b _ d c _ g w1 ed bo).mono ?_;rintro e y ⟨v,rfl,⟨q,t,rfl,_,_,_⟩,a⟩;have sj:=(hd.au (aa.ah (λ_=>False) a) (λ_ _ h=>h));go_wp2;go_ret3;exact⟨rfl,sj,i.trans (aa.ah (λ_=>False) a) (λ_ h=>h.elim)⟩
  .obtain rfl:D= []:=List.length_eq_zero_iff.mp (by omega);by_cases T:Q<1
   .rw [aE (by omega)];obtain rfl:Q=0:=(by omega);go_in;go_wp2_with fail;refine k.mono ?_;rintro e w1 ⟨u,x,rfl,tz,jo,hd,j⟩;obtain⟨b,d,rfl,ed,_⟩:=tz;obtain⟨c,g,rfl,bo,_⟩:=jo;have i:=(m.trans j (λ_ h=> .inl h));go_wp2_with fail;refine(o b _ d c _ g w1 ed bo).mono ?_;rintro e y ⟨v,rfl,⟨q,t,rfl,_,_,_⟩,a⟩;have sj:=(hd.au (aa.ah (λ_=>False) a) (λ_ _ h=>h));go_wp2;go_ret3;exact⟨rfl,sj,i.trans (aa.ah (λ_=>False) a) (λ_ h=>h.elim)⟩
   .skip
    by_cases U:1073741824<Q
    .rw [aE (by omega)];go_in;go_wp2_with fail;refine k.mono ?_;rintro e w1 ⟨u,x,rfl,tz,jo,hd,j⟩;obtain⟨b,d,rfl,ed,_⟩:=tz;obtain⟨c,g,rfl,bo,_⟩:=jo;have i:=(m.trans j (λ_ h=> .inl h));go_wp2_with fail;refine(o b _ d c _ g w1 ed bo).mono ?_;rintro e y ⟨v,rfl,⟨q,t,rfl,_,_,_⟩,a⟩;have sj:=(hd.au (aa.ah (λ_=>False) a) (λ_ _ h=>h));go_wp2;go_ret3;exact⟨rfl,sj,i.trans (aa.ah (λ_=>False) a) (λ_ h=>h.elim)⟩
    .skip
     by_cases W:1073741824<M
     .rw [aE (by omega)];go_in;go_wp2_with fail;refine k.mono ?_;rintro e w1 ⟨u,x,rfl,tz,jo,hd,j⟩;obtain⟨b,d,rfl,ed,_⟩:=tz;obtain⟨c,g,rfl,bo,_⟩:=jo;have i:=(m.trans j (λ_ h=> .inl h));go_wp2_with fail;refine(o b _ d c _ g w1 ed bo).mono ?_;rintro e y ⟨v,rfl,⟨q,t,rfl,_,_,_⟩,a⟩;have sj:=(hd.au (aa.ah (λ_=>False) a) (λ_ _ h=>h));go_wp2;go_ret3;exact⟨rfl,sj,i.trans (aa.ah (λ_=>False) a) (λ_ h=>h.elim)⟩
     .skip
      rw [aA (by simp;omega)];go_in;go_wp2_with fail;refine k.mono ?_;rintro e w1 ⟨u,x,rfl,tz,jo,hd,j⟩;obtain⟨b,d,rfl,ed,_⟩:=tz;obtain⟨c,g,rfl,bo,_⟩:=jo;have i:=(m.trans j (λ_ h=> .inl h));go_wp2_with fail;refine(o b _ d c _ g w1 ed bo).mono ?_;rintro e y ⟨v,rfl,⟨q,t,rfl,_,_,_⟩,a⟩;have sj:=(hd.au (aa.ah (λ_=>False) a) (λ_ _ h=>h));go_wp2;go_ret3;exact⟨rfl,sj,i.trans (aa.ah (λ_=>False) a) (λ_ h=>h.elim)⟩
def yS (S:DS) (s f:Nat) (num:Int):Int×DS:=
 let R:=aN (S.now f) (S.now (f+1)) num []
 if R.2.2≠0 then ((R.2.2:Int),S.read.read) else
 let W:=S.read.read.wr s ((f:Int)+(R.1:Int)) 512 R.2.1
 if W.1≠0 then W else W.2.fl s
theorem aw {b:Nat} {o:Obj} (h:w.heap[b]? =some o):b<w.heap.size:=by
 rcases Nat.lt_or_ge b w.heap.size with a|a
 .exact a
 .rw [Array.getElem?_eq_none a] at h;cases h
theorem yT {b:World} (e:∀k,F k->k<w.heap.size) (c:aa F w w2) (d:aa F w2 w3) (i:w3.heap.size<=b.heap.size) (h:aP b (more F w2 w3) p s S):aP b (more F w b) p s S:=by
 have f:=c.size;have g:=d.size;refine h.mono (λk a=>?_) (λk a=>?_)
 .rcases a with a|a
  .exact .inl a
  .exact .inr ⟨by omega,by omega⟩
 .rcases a with a|a
  .have:=e k a;omega
  .exact a.2
theorem Ni (c:∀k,F k->k<w.heap.size) (a:aa F w w2) (b:aa F w2 w3) (h:aP w3 (more F w2 w3) p s S):aP w3 (more F w w3) p s S:=
 yT c a b (bP _) h
theorem kD (l r:List Int) (num:Int) (a:List Int) (h0:(aN l r num a).2.2=0):(aN l r num a).2.1.length=512:=by
 have h:∀(t:Int) (N:Nat),a.length<=496->(be t (aQ N ++ a)).length=512:=λt N hd=>by rw [fj (by rw [dT,dN];omega)]
 revert h0;unfold aN;split
 .intro h0;cases h0
 .split
  .intro h0;cases h0
  .split
   .intro h0;cases h0
   .dsimp only
    split
    .intro h0;cases h0
    .split
     .intro _;exact h _ _ (by omega)
     .intro _;exact h _ _ (by omega)
theorem fL (l r:List Int) (num:Int) (a:List Int):(aN l r num a).1<=1:=by
 unfold aN;split
 .exact dU _
 .split
  .exact dU _
  .split
   .exact dU _
   .dsimp only
    split
    .exact dU _
    .split
     .exact bP _
     .exact dU _
theorem Nj (h:aP w F p s S) (f:Nat) (n:Int) (E T:Nat) (hE:E<=1073741824) (hT:T<=1073741824) (aT:S.puts.length+2<=4000000000000) (hf:S.fuse≠0) (hs:f+1<s) (aq:Bytes (S.now f)) (aW:Bytes (S.now (f+1))):
  Calls prog 105 #[kw p f n,iV (E:Int),iV (T:Int)] w λe w'=>e= .returned (iV (yS S s f ((E:Int)*4294967296+T)).1)/\aP w' (more F w w') p s (yS S s f ((E:Int)*4294967296+T)).2/\aa F w w':=by
 obtain⟨u,bo,A,M⟩:=cM (LZ (h.boxed (.cells #[.pointer (some ⟨p,0,none⟩), .int .i64 f, .int .i64 n] 144)) f n (by omega) hf hs) h.ok.hi (yh h.lt) (yh (aa.boxed (w:=w) F (.cells #[.pointer (some ⟨p,0,none⟩), .int .i64 f, .int .i64 n] 144)));have i:=λl n1 q m n2 r w1 ed bo=>Nf l n1 q (S.now f) m n2 r (S.now (f+1)) none 0 0 [] ((E:Int)*4294967296+T) w1 ed bo aq aW ⟨rfl,λ_=>rfl,λx U=>by cases U⟩ (by intro x U;cases U) (λ_=>rfl) (by omega);have mL:=fL (S.now f) (S.now (f+1)) ((E:Int)*4294967296+T) [];have A9:=kD (S.now f) (S.now (f+1)) ((E:Int)*4294967296+T) [];unfold yS;clear h hf aq aW;obtain⟨R,P⟩:∃R,R=aN (S.now f) (S.now (f+1)) ((E:Int)*4294967296+T) []:=⟨_,rfl⟩;rw [<-P] at mL A9⊢;simp only [<-P] at i;clear P;obtain⟨K,L,X⟩:=R;simp only at mL A9 i⊢;by_cases W:X≠0
 .rw [aE W];have d0:((X:Int) == 0)=false:=by rw [eG];omega
  go_in;go_wp2_with fail;refine u.mono ?_;rintro e w1 ⟨v1,v2,rfl,tz,jo,hd,d⟩;obtain⟨l,q,rfl,ed,_⟩:=tz;obtain⟨m,r,rfl,bo,_⟩:=jo;have g:=i l _ q m _ r w1 ed bo;have y:=yh hd;have z:=yh (M.o.trans d (λ_ h=> .inl h));clear u ed bo hd d i;go_wp2_with fail;refine g.mono ?_;rintro e w2 ⟨v,rfl,⟨I,J,rfl,_,_,_⟩,c⟩;obtain⟨sj,gQ⟩:=bL (y.o.au (aa.ah (λ_=>False) c) (λ_ _ h=>h)) (z.o.trans (aa.ah (λ_=>False) c) (λ_ h=>h.elim));clear g c;go_wp2;go_ret;exact⟨rfl,sj.o.more,gQ.o⟩
 .obtain rfl:X=0:=by omega
  rw [aA W];clear W;have b:=A9 rfl;clear A9;obtain⟨Y,Q⟩:∃Y,Y=(S.read.read.wr s ((f:Int)+(K:Int)) 512 L):=⟨_,rfl⟩;rw [<-Q];have O:=yh Q;clear Q;by_cases G:Y.1≠0
  .rw [aE G];go_in;go_wp2_with fail;refine u.mono ?_;rintro e w1 ⟨v1,v2,rfl,tz,jo,hd,d⟩;obtain⟨l,q,rfl,ed,_⟩:=tz;obtain⟨m,r,rfl,bo,_⟩:=jo;have g:=i l _ q m _ r w1 ed bo;have dF:=yR A.o d;have z:=yh (M.o.trans d (λ_ h=> .inl h));have y:=yh hd;have C:=yh dF;clear u ed bo hd d i dF;go_wp2_with fail;refine g.mono ?_;rintro e w2 ⟨v,rfl,⟨I,J,rfl,fB,_,_⟩,c⟩;have cC:=y.o.au (aa.ah (λ_=>False) c) (λ_ _ h=>h);have gQ:=yh (z.o.trans (aa.ah (λ_=>False) c) (λ_ h=>h.elim));have dF:=(c.block _ (aw C.o)).trans C.o;have Jl:=aL dF;have A2:=bD dF;have t:=uQ cC ((f:Int)+(K:Int)) I _ J L fB (by simpa [DS.read] using (show S.puts.length+1<=4000000000000 by omega));rw [b] at t;have k:=yh dF;clear g c cC fB dF;rw [b];go_wp2_with fail;refine fk t λw3 a aV=>?_;have ma:=yh (gQ.o.trans aV (λ_ h=> .inl h));rw [<-O.o] at a⊢;have U9:=yh (Ni A.o gQ.o aV a);have d1:(Y.1 == 0)=false:=(by rw [eG];exact G);clear a aV t;go_wp2;go_ret;exact⟨rfl,U9.o,ma.o⟩
  .rw [aA G];go_in;go_wp2_with fail;refine u.mono ?_;rintro e w1 ⟨v1,v2,rfl,tz,jo,hd,d⟩;obtain⟨l,q,rfl,ed,_⟩:=tz;obtain⟨m,r,rfl,bo,_⟩:=jo;have g:=i l _ q m _ r w1 ed bo;have dF:=yR A.o d;have z:=yh (M.o.trans d (λ_ h=> .inl h));have y:=yh hd;have C:=yh dF;clear u ed bo hd d i dF;go_wp2_with fail;refine g.mono ?_;rintro e w2 ⟨v,rfl,⟨I,J,rfl,fB,_,_⟩,c⟩;have cC:=y.o.au (aa.ah (λ_=>False) c) (λ_ _ h=>h);have gQ:=yh (z.o.trans (aa.ah (λ_=>False) c) (λ_ h=>h.elim));have dF:=(c.block _ (aw C.o)).trans C.o;have Jl:=aL dF;have A2:=bD dF;have t:=uQ cC ((f:Int)+(K:Int)) I _ J L fB (by simpa [DS.read] using (show S.puts.length+1<=4000000000000 by omega));rw [b] at t;have k:=yh dF;clear g c cC fB dF;rw [b];go_wp2_with fail;refine fk t λw3 a aV=>?_;have ma:=yh (gQ.o.trans aV (λ_ h=> .inl h));rw [<-O.o] at a⊢;have Z:=Dc a (by have:=i9 S.read.read s ((f:Int)+(K:Int)) 512 L;rw [<-O.o] at this;simp only [DS.read] at this;omega);have dF:=(aV.block _ (aw k.o) (λh=>by have:=A.o _ h;omega)).trans k.o;have Jl:=aL dF;have ah0:=yh aV;have H:Y.1=0:=(by simpa using G);rw [H];clear a aV t dF G H;go_wp2_with fail;refine fk Z λw4 D dV=>?_;obtain⟨L0,N⟩:=bL (ma.o.trans dV (λj h=>h.elim .inl (λh=> .inr (jQ gQ.o.size h.1)))) (yT A.o gQ.o ah0.o dV.size D);clear D dV Z;go_wp2;go_ret;exact⟨rfl,N.o,L0.o⟩
theorem QJ (i A X:Nat) (c:A<2 ^ i) (h:A+2 ^ i*X<9223372036854775808):
  bits .or .i64 (A:Int) ((2 ^ i*X:Nat):Int)=((A+2 ^ i*X:Nat):Int):=by
 have q:∀z:Nat,z<18446744073709551616->(BitVec.ofInt 64 (z:Int)).toNat=z:=by
  intro z d;rw [BitVec.toNat_ofInt];omega
 have a:A<18446744073709551616:=by omega
 have b:2 ^ i*X<18446744073709551616:=by omega
 show IntKind.i64.wrap ((BitVec.ofInt 64 (A:Int) |||BitVec.ofInt 64 ((2 ^ i*X:Nat):Int)).toNat:Int)=_;rw [BitVec.toNat_or,q A a,q _ b,Nat.or_comm,<-Nat.two_pow_add_eq_or_of_lt c X,Nat.add_comm];generalize A+2 ^ i*X=Z at*;rw [IntKind.wrap_i64];omega
theorem Cq (a:Bytes l) (h:l.length<=4):le l<9223372036854775808:=by
 have:=lg a;exact iP this (by have:=Nat.pow_le_pow_right (show 0<2 by omega) (show 8*l.length<=32 by omega);omega)
theorem tH (g o k c N:Nat) (T:TypeId) (l:List Int) (w:World) (d:jX w T g l) (q:k<=8) (r:o+k<=l.length):
  Calls prog 242 #[.slice (some (aD g o)) k c,iV (N:Int)] w λe w'=>e= .returned (.tuple #[])/\jX w' T g (put l o (leb k N))/\aa (λj=>j=g) w w'/\w'.heap.size=w.heap.size:=by
 go_in;go_wp2;go_loopw [7] (λi wr=>∃j:Nat,j<=k/\i=iV j/\jX wr T g (put l o (leb j N))/\aa (λj=>j=g) w wr/\wr.heap.size=w.heap.size) (λi _=>k-(intOf i).toNat);case atStart=>exact⟨0,dU _,rfl,by rw [leb,DD];exact d,aa.refl _ _,rfl⟩
 case round=>
  obtain⟨j,n,rfl,aZ,ru,ef⟩:=hrel;by_cases bm:j<k
  .have cw:(j:Int)<(k:Int):=(by omega);have a:=aH j N;have pf:=LP (l:=l) (xs:=leb j N) (o:=o) (by omega);have f:=aZ.cell (i:=o+j) (by omega);have m:=aZ.frozen (o+j);have oT:=aZ.set (o+j) ((N / 2 ^ (8*j)%256:Nat):Int);have e:=FN (l:=l) (xs:=leb j N) (o:=o) (by omega) ((N / 2 ^ (8*j)%256:Nat):Int);rw [a] at e;rw [e,<-iX] at oT;have b:=(ru.trans (aa.setCell (F:=λj=>j=g) (p:=⟨g,o+j,none⟩) wr rfl (.int .u8 ((N / 2 ^ (8*j)%256:Nat):Int))) (λ_ h=> .inl h));go_wp2;go_roundw;case rel=>exact⟨j+1,by omega,by go_num,oT,b,by simpa [World.setCell] using ef⟩
   case measure=>simp [intOf];omega
  .have cw:¬(j:Int)<(k:Int):=(by omega);obtain rfl:j=k:=(by omega);go_wp2
   go_end0
   exact⟨rfl,aZ,ru,ef⟩
theorem oo (b o n c:Nat) (l:List Int) (w:World) (d:Bytes l) (u:l.length=n) (v:n<=4) (g:∀i,i<n->w.cell? ⟨b,o+i,none⟩=some (.int .u8 (l.getD i 0))):
  Calls prog 226 #[.slice (some (aD b o)) n c] w λe w'=>e= .returned (iV ((le l:Nat):Int))/\w'=w:=by
 have m:=yh g;clear g;go_in;go_wp2;go_loopw [3,8] (λr i wr=>∃j:Nat,j<=n/\i=iV j/\wr=w/\r=iV ((le (l.take j):Nat):Int)) (λ_ i _=>n-(intOf i).toNat);case atStart=>exact⟨0,dU _,rfl,rfl,by simp [le]⟩
 case round=>
  obtain⟨j,t,rfl,rfl,rfl⟩:=hrel;by_cases bm:j<n
  .have cw:(j:Int)<(n:Int):=(by omega);have q:=m.o j bm;obtain⟨x,s,jA⟩:∃x:Nat,l.getD j 0=(x:Int)/\x<256:=by
    have:=d.getD j;exact⟨(l.getD j 0).toNat,by omega,by omega⟩
   have io:=lq (l:=l) (k:=j) (by omega);have f:le (l.take j)<2 ^ (8*j):=by
    have:=lg (d.take j);have e:(l.take j).length=j:=(by simp;omega);rwa [e] at this
   have a:le (l.take (j+1))<9223372036854775808:=Cq (d.take _) (by simp;omega);rw [s] at q io;simp only [Int.toNat_natCast] at io;rw [io] at a;have MV:=QJ (8*j) _ x f a;rw [<-io] at MV;have YP:((x:Int)*2 ^ (8*j))=((2 ^ (8*j)*x:Nat):Int):=(by rw [Int.natCast_mul,Int.natCast_pow,Int.mul_comm];rfl);have oS:((2 ^ (8*j)*x:Nat):Int)<9223372036854775808:=(by omega);generalize 2 ^ (8*j)*x=Y at*;generalize le (l.take j)=A at*;clear f a io;go_wp2;go_roundw;case rel=>exact⟨j+1,by omega,by go_num,trivial,by rw [<-(yh MV).out]⟩
   case measure=>simp [intOf];omega
  .have cw:¬(j:Int)<(n:Int):=(by omega);have p:l.take j=l:=nh (by omega);rw [p] at*;go_wp2;go_ret;exact⟨rfl,rfl⟩
structure PC where
 e:Nat
 p:Nat
 i:Nat
 c:Nat
 d:List Int
def PC.zero:PC:=⟨0,0,0,0, []⟩
def jZ (b:List Int):PC:=⟨le (b.take 4),le ((b.drop 4).take 4),le ((b.drop 8).take 2),le ((b.drop 10).take 2),b.drop 12⟩
def cF (l:List Int):PC:=if (aR l).2≠0\/(aR l).1.length<12 then PC.zero else jZ (aR l).1
def PC.ok (q:PC) (E P i c:Nat):Prop:=q.e=E/\q.p=P/\q.i=i/\q.c=c/\0<q.d.length/\(i+1≠c->q.d.length=492)
def kV (R:Nat->PC) (P k:Nat):List Int:=(List.range k).flatMap (λi=>(R (P+i)).d)
theorem mq (R:Nat->PC) (P:Nat):kV R P 0= []:=rfl
theorem iq (R:Nat->PC) (P k:Nat):kV R P (k+1)=kV R P k ++ (R (P+k)).d:=by simp [kV,List.range_succ]
def Rec (R:Nat->PC) (E P c:Nat) (d:List Int):Prop:=1<=c/\c<=17/\(∀i,i<c->(R (P+i)).ok E (P+i) i c)/\d=kV R P c
theorem Rec.count {R:Nat->PC} (h:Rec R E P c d):(R P).c=c:=by
 have:=(h.2.2.1 0 h.1).2.2.2.1;simpa using this
theorem Rec.unique {R:Nat->PC} {c':Nat} {a:List Int} (h:Rec R E P c d) (b:Rec R E P c' a):c=c'/\d=a:=by
 have e:=h.count.symm.trans b.count;subst e;exact⟨rfl,h.2.2.2.trans b.2.2.2.symm⟩
def dC (R:Nat->PC) (E:Nat):Nat->List (List Int)->Nat->Prop
 |P, [],h=>h=P
 |P,d :: ds,h=>∃c,Rec R E P c d/\dC R E (P+c) ds h
theorem dC.nil (R:Nat->PC) (E P:Nat):dC R E P [] P:=rfl
theorem dC.snoc {R:Nat->PC} {E:Nat}:∀{rs:List (List Int)} {P h c:Nat} {d:List Int},dC R E P rs h->Rec R E h c d->dC R E P (rs ++ [d]) (h+c)
 | [],P,h,c,d,a,hr=>by
  have a:h=P:=a;subst a;exact⟨c,hr,rfl⟩
 |x :: xs,P,h,c,d,⟨k,hk,a⟩,hr=>⟨k,hk,dC.snoc a hr⟩
theorem dC.unique {R:Nat->PC} {E:Nat}:∀{rs Ba:List (List Int)} {P h e:Nat},dC R E P rs h->(∀c d,¬Rec R E h c d)->dC R E P Ba e->(∀c d,¬Rec R E e c d)->rs=Ba/\h=e
 | [], [],P,h,e,a,_,b,_=>⟨rfl,(show h=P from a).trans (show e=P from b).symm⟩
 | [],x :: xs,P,h,e,a,hn,⟨k,hk,_⟩,_=>by
  have a:h=P:=a;subst a;exact absurd hk (hn _ _)
 |x :: xs, [],P,h,e,⟨k,hk,_⟩,_,b,hn=>by
  have b:e=P:=b;subst b;exact absurd hk (hn _ _)
 |x :: xs,y :: ys,P,h,e,⟨k,hk,ht⟩,hn,⟨k',xq,ht'⟩,Bk=>by
  obtain⟨rfl,rfl⟩:=hk.unique xq;obtain⟨rfl,rfl⟩:=dC.unique ht hn ht' Bk;exact⟨rfl,rfl⟩
theorem dC.le {R:Nat->PC} {E:Nat}:∀{rs:List (List Int)} {P h:Nat},dC R E P rs h->P<=h
 | [],P,h,a=>Nat.le_of_eq (show h=P from a).symm
 |x :: xs,P,h,⟨k,hk,ht⟩=>by have:=dC.le ht;omega
theorem Rec.at {R:Nat->PC} (h:Rec R E P c d) {q:Nat} (a:P<=q) (b:q<P+c):(R q).p=q:=by
 have:=(h.2.2.1 (q-P) (by omega)).2.1;rwa [show P+(q-P)=q by omega] at this
theorem dC.at {R:Nat->PC} {E:Nat}:∀{rs:List (List Int)} {P h:Nat},dC R E P rs h->∀q,P<=q->q<h->(R q).p=q
 | [],P,h,a,q,h1,h2=>by have a:h=P:=a;omega
 |x :: xs,P,h,⟨k,hk,ht⟩,q,h1,h2=>by
  by_cases b:q<P+k
  .exact hk.at h1 b
  .exact dC.at ht q (by omega) h2
theorem dC.round {R:Nat->PC} (f:1<=n) (e:∀q,R (q+n)=R q) (d:dC R E P rs h):h<=P+n:=by
 rcases Nat.lt_or_ge (P+n) h with c|c
 .have a:=d.at P (bP _) (by omega);have b:=d.at (P+n) (by omega) c;rw [e] at b;omega
 .exact c
theorem dC.length {R:Nat->PC} {E:Nat}:∀{rs:List (List Int)} {P h:Nat},dC R E P rs h->P+rs.length<=h
 | [],P,h,a=>Nat.le_of_eq (show h=P from a).symm
 |x :: xs,P,h,⟨k,hk,ht⟩=>by have:=dC.length ht;have:=hk.1;simp only [List.length_cons];omega
structure Scan (R:Nat->PC) (E T:Nat) (rs:List (List Int)) (h j c:Nat) (d:List Int):Prop where
 t:dC R E T rs h
 p:∀i,i<j->(R (h+i)).ok E (h+i) i c
 c:0<j->1<=c/\c<=17/\j<c
 d:d=kV R h j
theorem Scan.start (R:Nat->PC) (E T:Nat) (c:Nat):Scan R E T [] T 0 c []:=⟨rfl,λi a=>by omega,λh=>by omega,rfl⟩
def nz (R:Nat->PC) (h j c:Nat):Nat:=if j=0 then (R h).c else c
theorem Scan.grow {R:Nat->PC} (s:Scan R E T rs h j c d) (f:(R (h+j)).ok E (h+j) j (nz R h j c)) (a:1<=nz R h j c) (b:nz R h j c<=17) (l:j+1≠nz R h j c) (k:j<nz R h j c):
  Scan R E T rs h (j+1) (nz R h j c) (d ++ (R (h+j)).d):=by
 refine⟨s.t,λi g=>?_,λ_=>⟨a,b,by omega⟩,by rw [s.d,iq]⟩;by_cases e:i=j
 .subst e;exact f
 .have Xc:j≠0:=by omega
  have:=s.p i (by omega);rwa [nz,aA Xc]
theorem Scan.full {R:Nat->PC} (s:Scan R E T rs h j c d) (f:(R (h+j)).ok E (h+j) j (nz R h j c)) (k:nz R h j c<=17) (a:j+1=nz R h j c) (c':Nat):
  Scan R E T (rs ++ [d ++ (R (h+j)).d]) (h+j+1) 0 c' []:=by
 refine⟨?_,λi b=>by omega,λh=>by omega,rfl⟩;have g:Rec R E h (j+1) (d ++ (R (h+j)).d):=by
  refine⟨by omega,by omega,λi b=>?_,by rw [s.d,iq]⟩;by_cases e:i=j
  .subst e;rw [a];exact f
  .have:=s.p i (by omega);have Xc:j≠0:=(by omega);rw [a,nz,aA Xc];exact this
 exact s.t.snoc g
theorem Scan.ends {R:Nat->PC} (s:Scan R E T rs h j c d) (b:¬((R (h+j)).ok E (h+j) j (nz R h j c)/\1<=nz R h j c/\nz R h j c<=17)):∀c d,¬Rec R E h c d:=by
 intro k x a;by_cases e:j=0
 .subst e;refine b ?_;rw [nz,aE rfl,a.count];exact⟨a.2.2.1 0 a.1,a.1,a.2.1⟩
 .have g:=s.c (by omega);have f:k=c:=by rw [<-a.count];simpa using (s.p 0 (by omega)).2.2.2.1
  subst f;refine b ?_;rw [nz,aA e];exact⟨a.2.2.1 j g.2.2,a.1,a.2.1⟩
theorem Scan.at {R:Nat->PC} (s:Scan R E T rs h j c d) (q:Nat) (a:T<=q) (e:q<h+j):(R q).p=q:=by
 by_cases b:q<h
 .exact s.t.at q a b
 .have:=(s.p (q-h) (by omega)).2.1;rwa [show h+(q-h)=q by omega] at this
theorem Scan.round {R:Nat->PC} (g:1<=n) (b:∀q,R (q+n)=R q) (s:Scan R E T rs h j c d) (e:h+j=T+n):∀c d,¬Rec R E h c d:=by
 refine s.ends (λf=>?_);have a:=f.1.2.1;rw [e,b] at a;have:=s.at T (bP _) (by omega);omega
def rtop (R:Nat->PC):Nat->Nat
 |0=>0
 |k+1=>if (R k).e<=1073741824 then max (rtop R k) (R k).e else rtop R k
theorem xC (R:Nat->PC):∀k,rtop R k<=1073741824
 |0=>by simp [rtop]
 |k+1=>by
  have:=xC R k;unfold rtop;split <;> omega
theorem qJ (a:Bytes l) (h:l.length<=k):le l<2 ^ (8*k):=iP (lg a) (Nat.pow_le_pow_right (by omega) (by omega))
theorem L1 (a:Bytes l) (h:l.length<=2):le l<65536:=qJ a (k:=2) h
theorem L3 (a:Bytes l) (h:l.length<=4):le l<4294967296:=qJ a (k:=4) h
theorem pG (a:Bytes l):Bytes (aR l).1:=by
 unfold aR;split
 .exact Bytes.nil
 .split
  .exact Bytes.nil
  .rename_i b h;rw [(oc h).2.2.2];exact(a.drop 7).take _
theorem DN (l:List Int):(aR l).1.length<=504:=by
 unfold aR;split
 .simp
 .split
  .simp
  .rename_i a b h;exact qD h (by omega)
theorem j0 (b:Bytes l):(cF l).e<4294967296/\(cF l).p<4294967296/\(cF l).i<65536/\(cF l).c<65536/\(cF l).d.length<=492/\Bytes (cF l).d:=by
 have a:=pG b;have f:=DN l;unfold cF;split
 .exact⟨by decide,by decide,by decide,by decide,by decide,Bytes.nil⟩
 .exact⟨L3 (a.take _) (by simp;omega),L3 ((a.drop _).take _) (by simp;omega),L1 ((a.drop _).take _) (by simp;omega),L1 ((a.drop _).take _) (by simp;omega),by simp [jZ];omega,a.drop _⟩
section
def DS.DO (S:DS) (r:Int):DS:={S with reads:=r}
def ax (w:World) (F:Nat->Prop) (p s:Nat) (S:DS):Prop:=∃r,aP w F p s (S.DO r)
section
variable {w w':World} {F G:Nat->Prop} {p s:Nat} {S:DS}
theorem ax.ok (h:ax w F p s S):S.Ok s:=by
 obtain⟨r,h⟩:=h;exact⟨h.ok.len,h.ok.lo,h.ok.hi,h.ok.puts,h.ok.fuse⟩
theorem ax.lt (h:ax w F p s S):∀k,F k->k<w.heap.size:=by obtain⟨r,h⟩:=h;exact h.lt
theorem ax.au (h:ax w F p s S) (k:aa G w w') (hd:∀k,F k->¬G k):ax w' F p s S:=by obtain⟨r,h⟩:=h;exact⟨r,h.au k hd⟩
theorem ax.later (h:ax w F p s S) (a:bW w w'):ax w' F p s S:=h.au (aa.ah (λ_=>False) a) (λ_ _ h=>h)
theorem QK (S:DS) (r:Int) (s:Nat) (x:Int) (n:Nat) (l:List Int):(S.DO r).wr s x n l=((S.wr s x n l).1,(S.wr s x n l).2.DO r):=by
 unfold DS.wr;show (if S.fuse=0 then _ else _)=_;split
 .rfl
 .split
  .rfl
  .split <;> rfl
theorem QL (S:DS) (r:Int) (s:Nat):(S.DO r).fl s=((S.fl s).1,(S.fl s).2.DO r):=by
 unfold DS.fl;show (if S.fuse=0 then _ else _)=_;split <;> rfl
theorem Va (S:DS) (r:Int) (k:Nat):(S.DO r).now k=S.now k:=rfl
theorem Vb (S:DS) (r x:Int):(S.DO r).lay x=(S.lay x).DO r:=by
 unfold DS.lay;show (if S.fuse=0 then _ else _)=_;split <;> rfl
theorem pH (h:ax w F p s S):Calls prog 47 #[pQ p] w λe w'=>e= .returned (iV s)/\w'=w:=by
 obtain⟨r,h⟩:=h;exact x9 h
theorem yU (h:ax w F p s S):Calls prog 35 #[pQ p] w λe w'=>e= .returned (.bool (S.fuse == 0))/\w'=w:=by
 obtain⟨r,h⟩:=h;exact ii (S:=S.DO r) h
theorem vV (h:ax w F p s S):Calls prog 22 #[pQ p] w λe w'=>e= .returned (iV S.life)/\w'=w:=by
 obtain⟨r,h⟩:=h;exact UI (S:=S.DO r) h
theorem ot (h:ax w F p s S) (x:Int) (a:S.fuse=0):Calls prog 39 #[pQ p,iV x] w λe w'=>e= .returned (.tuple #[.slice none 0 0,iV 3])/\w'=w:=by
 obtain⟨r,h⟩:=h;exact BY h x a
theorem JO (h:ax w F p s S):Calls prog 33 #[pQ p] w λe w'=>∃g c,e= .returned (.slice (some (aD g 0)) (s*512) c)/\w.heap.size<=g/\ay w' 5 g c (bs S.im)/\bW w w':=by
 obtain⟨r,h⟩:=h;exact MD p s F (S.DO r) w h
def cW (S:DS) (s f:Nat) (num:Int):Int×DS:=
 if S.fuse=0 then (3,S) else
 if (aN (S.now f) (S.now (f+1)) num []).2.2≠0 then (((aN (S.now f) (S.now (f+1)) num []).2.2:Int),S) else
 if (S.wr s ((f:Int)+((aN (S.now f) (S.now (f+1)) num []).1:Int)) 512 (aN (S.now f) (S.now (f+1)) num []).2.1).1≠0 then S.wr s ((f:Int)+((aN (S.now f) (S.now (f+1)) num []).1:Int)) 512 (aN (S.now f) (S.now (f+1)) num []).2.1
 else (S.wr s ((f:Int)+((aN (S.now f) (S.now (f+1)) num []).1:Int)) 512 (aN (S.now f) (S.now (f+1)) num []).2.1).2.fl s
theorem tI (h:ax w F p s S) (f n:Int):Calls prog 103 #[kw p f n] w λe w'=>e= .returned (iV (cq S s f n))/\bW w w':=by
 have a:=h.ok.hi;obtain⟨r,h⟩:=h;exact FM h f n a
end
end
section
structure LG where
 f:Nat
 n:Nat
 life:Int
 begun:Bool
 ep:Nat
 tail:Nat
 head:Nat
 top:Nat
abbrev IX (p:Nat) (L:LG):Array Value:= #[pQ p,iV (L.f:Int),iV (L.n:Int),iV L.life, .bool L.begun,iV (L.ep:Int),iV (L.tail:Int),iV (L.head:Int),iV (L.top:Int)]
def cQ (w:World) (l p:Nat) (L:LG):Prop:=w.heap[l]? =some (.cells (IX p L) 149 (0,0))
theorem cQ.lt {w:World} {l p:Nat} {L:LG} (h:cQ w l p L):l<w.heap.size:=aw h
theorem cQ.au {w:World} {l p:Nat} {L:LG} (h:cQ w l p L) (k:aa G w w') (a:¬G l):cQ w' l p L:=(k.block l h.lt a).trans h
section
variable {w:World} {l p:Nat} {L:LG}
theorem cQ.c0 (h:cQ w l p L):w.cell? (aD l 0)=some (pQ p):=aL h
theorem cQ.c1 (h:cQ w l p L):w.cell? (aD l 1)=some (iV (L.f:Int)):=bD h
theorem cQ.c2 (h:cQ w l p L):w.cell? (aD l 2)=some (iV (L.n:Int)):=bH h
theorem cQ.c3 (h:cQ w l p L):w.cell? (aD l 3)=some (iV L.life):=fI h
theorem cQ.c4 (h:cQ w l p L):w.cell? (aD l 4)=some (.bool L.begun):=gz h
theorem cQ.c5 (h:cQ w l p L):w.cell? (aD l 5)=some (iV (L.ep:Int)):=rU h
theorem cQ.c6 (h:cQ w l p L):w.cell? (aD l 6)=some (iV (L.tail:Int)):=wG h
theorem cQ.c7 (h:cQ w l p L):w.cell? (aD l 7)=some (iV (L.head:Int)):=ri h
theorem cQ.c8 (h:cQ w l p L):w.cell? (aD l 8)=some (iV (L.top:Int)):=Dg h
theorem cQ.fz (h:cQ w l p L) (j:Nat):w.frozen? (aD l j)=false:=ae h j
end
structure LG.Ok (L:LG) (s:Nat):Prop where
 s:L.f+2+L.n<=s
 n1:18<=L.n
 n2:L.n<=256
 ep:L.ep<=1073741824
 top:L.top<1073741824
 th:L.tail<=L.head
 hn:L.head<=L.tail+L.n
 hi:L.head<=1073742080
 hb:L.begun=true->L.head<=1073741824
def LG.dead (L:LG) (S:DS):Bool:=S.fuse == 0 || S.life != L.life
def LG.bd (L:LG) (S:DS):Int:=if L.dead S=true then 3 else if L.begun=true then 0 else 4
section
variable {w:World} {F:Nat->Prop} {p s l:Nat} {S:DS} {L:LG}
theorem cQ.later {w:World} {l p:Nat} {L:LG} (h:cQ w l p L) (a:bW w w'):cQ w' l p L:=(a.block l h.lt).trans h
theorem tJ (h:ax w F p s S) (b:cQ w l p L):
  Calls prog 112 #[pQ l] w λe w'=>e= .returned (.bool (L.dead S))/\bW w w':=by
 have a:=λn=>yU (h.later (below_drewN (bi w.heap.size w) n));have c:=λn=>vV (h.later (below_drewN (bi w.heap.size w) n));have d:=b.c0;have f:=b.c3;unfold LG.dead;go_in;by_cases q:S.fuse=0
 .rw [show (S.fuse == 0)=true by simp [q]] at a⊢;go_wp2_with fail;go_quiet ((go_at_call 35;exact Calls.quiet_of_same (a _)));go_wp2;go_ret;exact⟨rfl,below_drewN (bi _ _) _⟩
 .rw [show (S.fuse == 0)=false by simp [q]] at a⊢;go_wp2_with fail;go_quiet (first|(go_at_call 35;exact Calls.quiet_of_same (a _))|(go_at_call 22;exact Calls.quiet_of_same (c _)));go_wp2;go_ret;exact⟨rfl,below_drewN (bi _ _) _⟩
theorem jp (h:ax w F p s S) (c:cQ w l p L):
  Calls prog 161 #[pQ l] w λe w'=>e= .returned (iV (L.bd S))/\bW w w':=by
 have a:=tJ h c;unfold LG.bd;go_in;cases hd:L.dead S
 .rw [hd] at a;cases d:L.begun
  .rw [aA (by decide),aA (by decide)];go_wp2_with fail;refine bE a λw' eC=>?_;have b:=(c.later eC).c4;rw [d] at b;go_wp2;go_ret;exact⟨rfl,eC⟩
  .rw [aA (by decide),aE rfl];go_wp2_with fail;refine bE a λw' eC=>?_;have b:=(c.later eC).c4;rw [d] at b;go_wp2;go_ret;exact⟨rfl,eC⟩
 .rw [hd] at a;rw [aE rfl];go_wp2_with fail;refine bE a λw' eC=>?_;go_wp2;go_ret;exact⟨rfl,eC⟩
theorem yV (b:cQ w l p L) (a:L.Ok s):
  Calls prog 162 #[pQ l] w λe w'=>e= .returned (iV ((L.n:Int)-((L.head:Int)-(L.tail:Int))))/\bW w w':=by
 obtain⟨g,i,j,c,d,f⟩:=kQ b.c2 b.c6 b.c7 a.n2 a.th a.hn;go_in;go_wp2_with fail;go_quiet (fail);go_wp2;go_ret;exact⟨rfl,below_drewN (bi _ _) _⟩
theorem i5 (x:Nat) (w:World) (a:x<=140737488355328):Calls prog 213 #[iV (x:Int)] w λe w'=>e= .returned (iV (((x+491) / 492:Nat):Int))/\w'=w:=by
 have h:((x:Int)+492-1) / 492=(((x+491) / 492:Nat):Int):=by omega
 go_in;go_wp2;go_ret;rw [h];exact⟨rfl,rfl⟩
def LG.room (L:LG) (S:DS):Int×Int:=if L.bd S≠0 then (0,L.bd S) else ((L.n:Int)-((L.head:Int)-(L.tail:Int)),0)
theorem F9 (h:ax w F p s S) (f:cQ w l p L) (g:L.Ok s):
  Calls prog 113 #[pQ l] w λe w'=>e= .returned (.tuple #[iV (L.room S).1,iV (L.room S).2])/\bW w w':=by
 have c:=jp h f;unfold LG.room;generalize L.bd S=U at*;go_in;by_cases q:U=0
 .subst q;rw [aA (by decide)];go_wp2_with fail;refine bE c λw1 a=>?_;have b:=a;go_wp2_with fail;refine(yV (f.later a) g).mono ?_;rintro e i ⟨rfl,a⟩;go_wp2;go_ret2;exact⟨rfl,b.trans (a.mono b.size)⟩
 .rw [aE q];have d:(U == 0)=false:=by rw [eG];exact q
  go_wp2_with fail;refine bE c λw1 a=>?_;go_wp2;go_ret2;exact⟨rfl,a⟩
def LG.sync (L:LG) (S:DS) (s:Nat):Int×DS:=if L.bd S≠0 then (L.bd S,S) else S.fl s
end
end
def stepsTo (S:DS) (g:Nat->DS->Int×DS):Nat->Int×DS
 |0=>(0,S)
 |k+1=>if (stepsTo S g k).1≠0 then stepsTo S g k else g k (stepsTo S g k).2
theorem gw {S:DS} {g:Nat->DS->Int×DS} {k:Nat} (h:(stepsTo S g k).1≠0):∀m,k<=m->stepsTo S g m=stepsTo S g k
 |0,hm=>by rw [show k=0 by omega]
 |m+1,hm=>by
  by_cases e:k=m+1
  .rw [e]
  .have:=gw h m (by omega);show (if (stepsTo S g m).1≠0 then stepsTo S g m else g m (stepsTo S g m).2)=_;rw [this,aE h]
theorem jm {g:Nat->DS->Int×DS} (h:(stepsTo S g k).1=0):stepsTo S g (k+1)=g k (stepsTo S g k).2:=by
 rw [stepsTo,aA (by omega)]
theorem ou {S:DS} {g:Nat->DS->Int×DS} (a:∀k T,(g k T).2.puts.length<=T.puts.length+1):∀k,(stepsTo S g k).2.puts.length<=S.puts.length+k
 |0=>bP _
 |k+1=>by
  have:=ou a k (S:=S);have:=a k (stepsTo S g k).2;unfold stepsTo;split <;> omega
def bA (S:DS) (s f k:Nat):Int×DS:=stepsTo S (λj T=>T.wr s ((f+j:Nat):Int) 512 (zs 512)) k
def cK (S:DS) (s f n:Nat):Int×DS:=if (bA S s f (n+2)).1≠0 then bA S s f (n+2) else (bA S s f (n+2)).2.fl s
theorem pI (S:DS) (s f k:Nat):(bA S s f k).2.puts.length<=S.puts.length+k:=ou (λ_ _=>i9 _ _ _ _ _) k
theorem uV (b:w.heap.size<=w1.heap.size) (c:w1.heap.size<=w2.heap.size):∀k,more (more F w w1) w1 w2 k->more F w w2 k:=λk a=>by
 rcases a with (a|a)|a
 .exact .inl a
 .exact .inr ⟨a.1,by omega⟩
 .exact .inr ⟨by omega,a.2⟩
theorem cG (b:∀k,F k->k<w.heap.size) (c:w.heap.size<=w2.heap.size):∀k,more F w w2 k->k<w2.heap.size:=λk a=>by
 rcases a with a|a
 .have:=b k a;omega
 .exact a.2
def DS.fC (S:DS):Prop:=Bytes S.im/\∀q∈S.puts,Bytes q.2
theorem yW {im:List Int} (h:Bytes im) (k:Nat):Bytes (bI im k):=(h.drop _).take _
theorem JP (h:S.fC) (k j:Nat):Bytes ((ar S.puts k).getD j []):=by
 rcases Nat.lt_or_ge j (ar S.puts k).length with a|a
 .rw [List.getD,List.getElem?_eq_getElem a,Option.getD_some];have b:=List.getElem_mem a;unfold ar at b;obtain⟨q,c,e⟩:=List.mem_map.1 b;have:=h.2 q (List.mem_filter.1 c).1;unfold ar;rw [<-e];exact this
 .rw [List.getD,List.getElem?_eq_none a];exact Bytes.nil
theorem sk (h:S.fC) (k j:Nat):Bytes (S.gB k j):=by
 unfold DS.gB;split
 .exact yW h.1 k
 .exact JP h k _
theorem DS.fC.now (h:S.fC) (k:Nat):Bytes (S.now k):=sk h k _
theorem yX {f:Nat->List Int} (h:∀k,Bytes (f k)):Bytes (pj s f):=by
 intro x b;obtain⟨k,_,a⟩:=List.mem_flatMap.1 b;exact h k x a
theorem DS.fC.wr (h:S.fC) (s:Nat) (x:Int) (n:Nat) (b:Bytes l):(S.wr s x n l).2.fC:=by
 unfold DS.wr;split
 .exact h
 .split
  .exact h
  .split
   .exact h
   .refine⟨h.1,λq a=>?_⟩;rcases List.mem_append.1 a with a|a
    .exact h.2 q a
    .rw [List.mem_singleton.1 a];exact b
theorem DS.fC.fl (h:S.fC) (s:Nat):(S.fl s).2.fC:=by
 unfold DS.fl;split
 .exact h
 .exact⟨yX h.now,λq a=>by cases a⟩
theorem DS.fC.take (h:S.fC):S.take.fC:=h
theorem DS.fC.lay (h:S.fC) (x:Int):(S.lay x).fC:=by
 unfold DS.lay;split
 .exact h
 .exact h
theorem JQ (h:S.fC) (k A B C:Nat):Bytes (jh S k A B C):=by
 unfold jh;exact((sk h k _).take _).append ((sk h k _).drop _)
theorem DS.fC.il (h:S.fC) (s:Nat) (l:List P3):(S.il s l).fC:=by
 refine⟨yX (λk=>?_),λq a=>by cases a⟩;unfold fd;split
 .exact yW h.1 k
 .exact JQ h k _ _ _
theorem mr {S:DS} {g:Nat->DS->Int×DS} (h:S.fC) (a:∀k T,T.fC->(g k T).2.fC):∀k,(stepsTo S g k).2.fC
 |0=>h
 |k+1=>by
  have:=mr h a k;unfold stepsTo;split
  .exact this
  .exact a k _ this
theorem Ga (n:Nat):Bytes (zs n):=by unfold zs;exact Bytes.tu n
theorem DS.fC.QM (h:S.fC) (s f n:Nat):(cK S s f n).2.fC:=by
 have a:∀k,(bA S s f k).2.fC:=mr h (λk T b=>b.wr s _ _ (Ga _));unfold cK;split
 .exact a _
 .exact(a _).fl s
theorem DP {r:List Int} (num:Int) {c:List Int} (hd:Bytes c):Bytes (aN l r num c).2.1:=by
 have d:∀(a b:Int),c.length<=496->Bytes (be (cD a b) (aQ num.toNat ++ c)):=λa b h=>vO ((iC _).append hd) (by rw [dT,dN];omega) ⟨by omega,by have:=gd a b;omega⟩;unfold aN;split
 .exact Bytes.nil
 .split
  .exact Bytes.nil
  .split
   .exact Bytes.nil
   .dsimp only
    split
    .exact Bytes.nil
    .split
     .exact d _ _ (by omega)
     .exact d _ _ (by omega)
theorem DS.fC.cW (h:S.fC) (s f:Nat) (num:Int):(cW S s f num).2.fC:=by
 have a:=h.wr s ((f:Int)+((aN (S.now f) (S.now (f+1)) num []).1:Int)) 512 (DP (l:=S.now f) (r:=S.now (f+1)) num Bytes.nil);unfold Go.Proofs.YtenlkgicpllbhaaGreat.cW;split
 .exact h
 .split
  .exact h
  .split
   .exact a
   .exact a.fl s
theorem vW {old:List Int} (a:Bytes body):Bytes (gg old body).1:=by
 unfold gg;split
 .exact Bytes.nil
 .split
  .exact Bytes.nil
  .exact vO a (by omega) ⟨by omega,by have:=gd (old.getD 0 0) (old.getD 511 0);omega⟩
theorem sm (S:DS) (s f n:Nat):(cK S s f n).2.puts.length<=S.puts.length+n+3:=by
 have a:=pI S s f (n+2);have b:=xU (bA S s f (n+2)).2 s;unfold cK;split <;> omega
def cy (S:DS) (s:Nat) (f n:Int):Int×DS:=
 if cq S s f n≠0 then (cq S s f n,S) else
 if (cK S.take s f.toNat n.toNat).1≠0 then cK S.take s f.toNat n.toNat else cW (cK S.take s f.toNat n.toNat).2 s f.toNat 4294967296
theorem fM {f n:Int} (h:cq S s f n=0):S.fuse≠0/\∃a b:Nat,f=(a:Int)/\n=(b:Int)/\a+2+b<=s/\18<=b/\b<=256:=by
 unfold cq at h;split at h
 .omega
 .rename_i c;split at h
  .omega
  .split at h
   .omega
   .split at h
    .omega
    .exact⟨c,f.toNat,n.toNat,by omega,by omega,by omega,by omega,by omega⟩
theorem ew {b:Nat} {o:Obj} (h:w.heap[b]? =some o) (a:aa G w w1) (c:¬G b):w1.heap[b]? =some o:=(a.block b (aw h) c).trans h
section
def LG.start (L:LG) (S:DS) (s:Nat):Int×DS×LG:=
 if L.dead S=true then (3,S,L) else if L.begun=true then (5,S,L) else
 if (cW S s L.f (((L.top+1:Nat):Int)*4294967296+((0:Nat):Int))).1≠0 then ((cW S s L.f (((L.top+1:Nat):Int)*4294967296+((0:Nat):Int))).1,(cW S s L.f (((L.top+1:Nat):Int)*4294967296+((0:Nat):Int))).2,L)
 else (0,(cW S s L.f (((L.top+1:Nat):Int)*4294967296+((0:Nat):Int))).2,{L with begun:=true,ep:=L.top+1,tail:=0,head:=0})
def LG.trim (L:LG) (S:DS) (s:Nat):Int×DS×LG:=
 if (L.sync S s).1≠0 then ((L.sync S s).1,(L.sync S s).2,L) else if L.tail=L.head then (0,(L.sync S s).2,L) else
 if (cW (L.sync S s).2 s L.f ((L.ep:Int)*4294967296+(L.head:Int))).1≠0 then ((cW (L.sync S s).2 s L.f ((L.ep:Int)*4294967296+(L.head:Int))).1,(cW (L.sync S s).2 s L.f ((L.ep:Int)*4294967296+(L.head:Int))).2,L)
 else (0,(cW (L.sync S s).2 s L.f ((L.ep:Int)*4294967296+(L.head:Int))).2,{L with tail:=L.head})
theorem cQ.started {w:World} {l p:Nat} {L:LG} (h:cQ w l p L) (E:Int) (n:Nat) (e:E=(n:Int)):
  cQ ((((w.setCell ⟨l,4,none⟩ (.bool true)).setCell ⟨l,5,none⟩ (.int .i64 E)).setCell ⟨l,6,none⟩ (.int .i64 0)).setCell ⟨l,7,none⟩ (.int .i64 0)) l p {L with begun:=true,ep:=n,tail:=0,head:=0}:=by
 subst e;have a:=heap_setCell_same _ _ 4 _ _ (.bool true) h;have b:=heap_setCell_same _ _ 5 _ _ (iV (n:Int)) a;have c:=heap_setCell_same _ _ 6 _ _ (iV 0) b;have d:=heap_setCell_same _ _ 7 _ _ (iV 0) c;exact d.trans (by simp [IX])
theorem cQ.trimmed {w:World} {l p:Nat} {L:LG} (h:cQ w l p L):cQ (w.setCell ⟨l,6,none⟩ (.int .i64 (L.head:Int))) l p {L with tail:=L.head}:=
   (heap_setCell_same _ _ 6 _ _ (iV (L.head:Int)) h).trans (by simp [IX])
theorem aJ {F:Nat->Prop} (w:World) {l:Nat} (a:F l) (j:Nat) (v:Value):aa F w (w.setCell ⟨l,j,none⟩ v):=aa.setCell (F:=F) w (p:=(aD l j)) a v
section
variable {w:World} {F:Nat->Prop} {p s l:Nat} {S:DS} {L:LG}
end
end
section
theorem nA (L:LG) (S:DS) (s:Nat):(L.sync S s).2.puts.length<=S.puts.length+1:=by
 unfold LG.sync;split
 .simp
 .exact xU S s
theorem pJ {S:DS} (h:S.fC) (L:LG) (s:Nat):(L.sync S s).2.fC:=by
 unfold LG.sync;split
 .exact h
 .exact h.fl s
theorem JR {L:LG} {S:DS} {s:Nat} (h:(L.sync S s).1=0):L.begun=true:=by
 unfold LG.sync at h;split at h
 .rename_i a;exact absurd h a
 .rename_i a;unfold LG.bd at a;split at a
  .omega
  .split at a
   .assumption
   .omega
section
variable {w:World} {F:Nat->Prop} {p s l:Nat} {S:DS} {L:LG}
end
end
abbrev kW (e q i c:Int) (a:Option Addr) (n k:Nat):Value:= .agg #[iV e,iV q,iV i,iV c, .slice a n k]
abbrev eI (e q i c:Int) (a:Option Addr) (n k:Nat):Array Value:= #[iV e,iV q,iV i,iV c, .slice a n k]
def kE (E P i c:Nat) (part:List Int):List Int:=leb 4 E ++ (leb 4 P ++ (leb 2 i ++ (leb 2 c ++ part)))
theorem DQ (A X:List Int) (m:Nat) (h:X.length<=m):put (A ++ zs m) A.length X=(A ++ X) ++ zs (m-X.length):=by
 unfold put;have e:zs m=zs X.length ++ zs (m-X.length):=by rw [<-lM];congr 1;omega
 have a:A.length+X.length=(A ++ zs X.length).length:=by rw [dT,bB]
 rw [List.take_left,a,e,<-List.append_assoc A (zs X.length),List.drop_left,List.append_assoc]
theorem uW (E P i c:Nat) (l:List Int):(kE E P i c l).length=12+l.length:=by
 simp only [kE,dT,aH];omega
theorem mt (h:Bytes l):Bytes (kE E P i c l):=(iF _ _).append ((iF _ _).append ((iF _ _).append ((iF _ _).append h)))
theorem QN (E P i c:Nat) (l:List Int):kE E P i c l=(((leb 4 E ++ leb 4 P) ++ leb 2 i) ++ leb 2 c) ++ l:=by
 simp only [kE,List.append_assoc]
theorem QO (E P i c:Nat) (a:Option Addr) (n k:Nat) (l:List Int) (w:World) (D:Src w a n l) (hn:n<=492) (tk:a=none->k=0):
  Calls prog 237 #[kW E P i c a n k] w λe w'=>∃v,e= .returned v/\Own w' w.heap.size v (kE E P i c l)/\bW w w':=by
 obtain⟨R,N,gv,dr,ec⟩:=info_parts fW;have H:=yh D;have O:=D.1;obtain⟨m,Q⟩:∃m:Nat,m=12+n:=⟨_,rfl⟩;have Z:(4:Int)<=(m:Int):=by omega
 have b8:(8:Int)<=(m:Int):=by omega
 have U:(10:Int)<=(m:Int):=by omega
 have W:(12:Int)<=(m:Int):=by omega
 have n4:¬m=4:=by omega
 have n8:¬m=8:=by omega
 have Y:¬m=10:=by omega
 have y:=yh Q;rw [QN];obtain⟨A,C⟩:=bQ ((((leb 4 E ++ leb 4 P) ++ leb 2 i) ++ leb 2 c));rw [<-C];have S:=yh C;clear D C Q;go_in;go_wp2_with (at_make;refine iH _ rfl _ _ rfl _ 12 m rfl rfl ?c1 ?c2 ?c3 ?_);case c1=>have:=y.o;omega
 case c2=>omega
 case c3=>have:=y.o;omega
 intro w1 aZ aq;have dF:w1.heap[w.heap.size]? =some (.cells (eI E P i c a n k) 230 (0,0)):=(aq.block _ (by simp)).trans (heap_alloc_new _ _);have cN:=yh ((yh (aI w (.cells (eI E P i c a n k) 230))).out.trans (aq.mono (by simp)));clear aq;obtain⟨p,Cr⟩:=bL dF (y.o▸aZ:jX w1 5 (w.heap.size+1) (zs (12+n)));clear aZ;have X:=aL p.o;have J:put (zs (12+n)) 0 (leb 4 E)=leb 4 E ++ zs (8+n):=by
  have:=DQ ([]:List Int) (leb 4 E) (12+n) (by rw [aH];omega);simp only [aH,List.nil_append,List.length_nil] at this;rw [show 12+n-4=8+n by omega] at this;exact this
 have cm:=λ(r:Nat) (wx:World) (b:jX wx 5 (w.heap.size+1) (zs (12+n)))=>tH (w.heap.size+1) 0 4 r E 5 (zs (12+n)) wx b (by omega) (by simp only [bB];omega);rw [J] at cm;have Bt:=yh cm;clear J cm;go_wp2_with fail
 go_region_with ((go_at_call 242;refine(Bt.o _ w1.drew Cr.o).mono ?_;rintro e F ⟨rfl,f,d,g⟩;have b:=ew (w:=w1.drew) (w1:=F) p.o d (by omega)))
 obtain⟨Vc,gQ⟩:=bL b f;have dE:=yh ((ai cN.o).trans (d.below (B:=w.heap.size) (λj z=>by omega) (ai cN.o).size));clear X Bt b f d g;have c1:=bD Vc.o;have K:put (leb 4 E ++ zs (8+n)) 4 (leb 4 P)=(leb 4 E ++ leb 4 P) ++ zs (4+n):=by
  have:=DQ (leb 4 E) (leb 4 P) (8+n) (by rw [aH];omega);simp only [aH] at this;rw [show 8+n-4=4+n by omega] at this;exact this
 have fy:=λ(r:Nat) (wx:World) (b:jX wx 5 (w.heap.size+1) (leb 4 E ++ zs (8+n)))=>tH (w.heap.size+1) 4 4 r P 5 (leb 4 E ++ zs (8+n)) wx b (by omega) (by simp only [dT,aH,bB];omega);rw [K] at fy;have Ve:=yh fy;clear K fy;go_wp2_with fail
 go_region_with ((go_at_call 242;refine(Ve.o _ F.drew gQ.o).mono ?_;rintro e G ⟨rfl,f,d,g⟩;have b:=ew (w:=F.drew) (w1:=G) Vc.o d (by omega)))
 obtain⟨Vf,ma⟩:=bL b f;have fS:=yh ((ai dE.o).trans (d.below (B:=w.heap.size) (λj z=>by omega) (ai dE.o).size));clear c1 Ve b f d g;have c2:=bH Vf.o;have L:put ((leb 4 E ++ leb 4 P) ++ zs (4+n)) 8 (leb 2 i)=((leb 4 E ++ leb 4 P) ++ leb 2 i) ++ zs (2+n):=by
  have:=DQ (leb 4 E ++ leb 4 P) (leb 2 i) (4+n) (by rw [aH];omega);simp only [dT,aH,Nat.reduceAdd] at this;rw [show 4+n-2=2+n by omega] at this;exact this
 have gZ:=λ(r:Nat) (wx:World) (b:jX wx 5 (w.heap.size+1) ((leb 4 E ++ leb 4 P) ++ zs (4+n)))=>tH (w.heap.size+1) 8 2 r i 5 ((leb 4 E ++ leb 4 P) ++ zs (4+n)) wx b (by omega) (by simp only [dT,aH,bB];omega);rw [L] at gZ;have s:=yh gZ;clear L gZ;go_wp2_with fail
 go_region_with ((go_at_call 242;refine(s.o _ G.drew ma.o).mono ?_;rintro e I ⟨rfl,f,d,g⟩;have b:=ew (w:=G.drew) (w1:=I) Vf.o d (by omega)))
 obtain⟨Xt,L0⟩:=bL b f;have jB:=yh ((ai fS.o).trans (d.below (B:=w.heap.size) (λj z=>by omega) (ai fS.o).size));clear c2 s b f d g;have c3:=fI Xt.o;have M:put (((leb 4 E ++ leb 4 P) ++ leb 2 i) ++ zs (2+n)) 10 (leb 2 c)=(((leb 4 E ++ leb 4 P) ++ leb 2 i) ++ leb 2 c) ++ zs (0+n):=by
  have:=DQ ((leb 4 E ++ leb 4 P) ++ leb 2 i) (leb 2 c) (2+n) (by rw [aH];omega);simp only [dT,aH,Nat.reduceAdd] at this;rw [show 2+n-2=0+n by omega] at this;exact this
 have iR:=λ(r:Nat) (wx:World) (b:jX wx 5 (w.heap.size+1) (((leb 4 E ++ leb 4 P) ++ leb 2 i) ++ zs (2+n)))=>tH (w.heap.size+1) 10 2 r c 5 (((leb 4 E ++ leb 4 P) ++ leb 2 i) ++ zs (2+n)) wx b (by omega) (by simp only [dT,aH,bB];omega);rw [M] at iR;have t:=yh iR;clear M iR;go_wp2_with fail
 go_region_with ((go_at_call 242;refine(t.o _ I.drew L0.o).mono ?_;rintro e w5 ⟨rfl,f,d,g⟩;have b:=ew (w:=I.drew) (w1:=w5) Xt.o d (by omega)))
 obtain⟨Y8,T8⟩:=bL b f;have jd:=yh ((ai jB.o).trans (d.below (B:=w.heap.size) (λj z=>by omega) (ai jB.o).size));clear c3 t b f d g;have c4:=gz Y8.o;have az:Own w5 w.heap.size (.slice (some ⟨w.heap.size+1,0,none⟩) (((leb 4 E ++ leb 4 P) ++ leb 2 i) ++ leb 2 c).length m) (((leb 4 E ++ leb 4 P) ++ leb 2 i) ++ leb 2 c):=LW T8.o (by omega) (by simp only [dT,aH,bB];have:=y.o;omega) (by unfold maxLen;have:=y.o;omega);have jT:(((leb 4 E ++ leb 4 P) ++ leb 2 i) ++ leb 2 c).length=12:=by simp only [dT,aH]
 rw [jT] at az;have aY:w5.ownsRow w.heap.size 5 1 (.slice (some ⟨w.heap.size+1,0,none⟩) 12 m) 12 (bs (((leb 4 E ++ leb 4 P) ++ leb 2 i) ++ leb 2 c)):=by
  have:=az;unfold Own at this;rwa [jT] at this
 have uP:=yh aY;have bq:=yh az;have g:=jd.o.size;rw [<-S.o] at jT uP bq;clear az aY p Vc Vf Xt Cr gQ ma L0 T8 cN dE fS jB;cases a with
 |none=>
  have kT:=H.o.2.1 rfl;subst kT;have vJ:=List.eq_nil_of_length_eq_zero O;subst vJ;have Jl:=tk rfl;subst Jl;go_wp2_with (at_builtin;refine wpList_append_own_none rfl _ _ 36 rfl w.heap.size 5 R 1 underlying36 N _ 12 (bs A) rfl uP.o rfl ?_);go_ret;exact⟨_,rfl,by first|exact bq.o|(rw [List.append_nil];exact bq.o),jd.o⟩
 |some x=>
  have uT:=yh (λj u (z:(bs l)[j]? =some u)=>show w5.cell? (x.add j)=some u by
   obtain⟨YQ,rfl⟩:=fq z;exact cell_later jd.o (H.o.2.2 _ rfl j (by omega)))
  have DG:(bs l).length=n:=by rw [bs,List.length_map,O]
  go_wp2_with (at_builtin;refine wpList_append_own _ rfl _ _ 36 rfl w.heap.size 5 R (.int .u8 0) 1 1 underlying36 N gv dr ec rfl (by decide) _ 12 (bs A) rfl uP.o x n k (bs l) rfl ?n0 uT.out ?n2 ?n3 ?n4 ?n5 ?_);case n0=>omega
  case n2=>exact cB _
  case n3=>unfold maxLen;omega
  case n4=>omega
  case n5=>exact g
  intro v' w6 cJ kU _;rw [<-iE] at cJ;obtain⟨T,wO⟩:=bL (DC (m:=A ++ l) cJ (by rw [dT,jT];omega) rfl) (jd.o.grown kU g (λq e=>(uP.o.lt q e).1));clear cJ kU;go_wp2;go_ret;exact⟨_,rfl,T.o,wO.o⟩
section
def bS (w:World) (F:Nat->Prop) (p s:Nat) (S:DS) (m:Nat):Prop:=∃r,gD w F p s (S.DO r) m
section
variable {w w':World} {F G:Nat->Prop} {p s m:Nat} {S:DS}
theorem bS.r (h:bS w F p s S m):ax w F p s S:=by obtain⟨r,h⟩:=h;exact⟨r,h.at⟩
theorem oO {S:DS} {s:Nat} (a:S.fuse≠0) (b:k<s) (l:List Int):S.wr s (k:Int) 512 l=(0,(S.put k l).wrote.fY):=by
 unfold DS.wr;rw [aA a,aA (by omega),aA (by omega),Int.toNat_natCast]
end
def jM (S:DS) (s f n E P i c:Nat) (part:List Int):Int×DS:=
 if S.fuse=0 then (3,S) else S.wr s ((f+2+P%n:Nat):Int) 512 (gg (S.now (f+2+P%n)) (kE E P i c part)).1
theorem so {old:List Int} (b:old.length=512) (a:body.length<=504):(gg old body).2=0/\(gg old body).1.length=512:=by
 unfold gg;rw [aA (by omega),aA (by omega)];exact⟨rfl,fj a⟩
theorem Src.nB {w w':World} {F:Nat->Prop} (h:Src w a n l) (g:aa F w w') (d:∀y,a=some y->0<n->¬F y.block):Src w' a n l:=
   ⟨h.1,h.2.1,λx c i f=>by
  have h0:=h.2.2 x c i f;have e:(x.add i).block=x.block:=by unfold Addr.add;split <;> rfl
  rw [World.cell?_of_block (w:=w) (g.block _ (World.block_lt_of_cell? _ _ h0) (λb=>by rw [e] at b;exact d x c (by omega) b))];exact h0⟩
theorem iI (w:World) (a b:Obj):bW w ((w.alloc a).alloc b):=((bi _ _).alloc (bP _) _).alloc (by simp) _
end
theorem yY {b o:Nat} (h:Src w (some (aD b o)) n l) (x y:Nat) (c:x+y<=n):∀i,i<y->w.cell? ⟨b,o+x+i,none⟩=some (.int .u8 (((l.drop x).take y).getD i 0)):=by
 intro i a;have:=h.2.2 _ rfl (x+i) (by omega);rw [aK] at this;rw [Nat.add_assoc,this];congr 2;simp [List.getD,a,List.getElem?_drop]
theorem Nk {b o:Nat} (h:Src w (some (aD b o)) n l) (x y:Nat) (a:x+y<=n):Src w (some ⟨b,o+x,none⟩) y ((l.drop x).take y):=
   ⟨by have:=h.1;simp;omega,(λe=>by cases e),λz d i c=>by cases d;rw [aK];exact yY h x y a i c⟩
theorem JS (w1:World) (b:Nat) (a c d e f:Value):aa (λk=>k=b) w1 (((((w1.setCell ⟨b,0,none⟩ a).setCell ⟨b,1,none⟩ c).setCell ⟨b,2,none⟩ d).setCell ⟨b,3,none⟩ e).setCell ⟨b,4,none⟩ f):=
   ((((aJ (F:=λk=>k=b) w1 rfl 0 a).trans (aJ (F:=λk=>k=b) _ rfl 1 c) (λ_ h=> .inl h)).trans (aJ (F:=λk=>k=b) _ rfl 2 d) (λ_ h=> .inl h)).trans (aJ (F:=λk=>k=b) _ rfl 3 e) (λ_ h=> .inl h)).trans (aJ (F:=λk=>k=b) _ rfl 4 f) (λ_ h=> .inl h)
theorem JT (w:World) (b:Nat):(World.drew w).heap[b]? =w.heap[b]? :=rfl
theorem Cs {b:Nat} {t:TypeId} {g i j k l:Value} (a c d e f:Value) (h:w.heap[b]? =some (.cells #[g,i,j,k,l] t (0,0))):
    (World.drew (((((w.setCell ⟨b,0,none⟩ a).setCell ⟨b,1,none⟩ c).setCell ⟨b,2,none⟩ d).setCell ⟨b,3,none⟩ e).setCell ⟨b,4,none⟩ f)).heap[b]? =some (.cells #[a,c,d,e,f] t (0,0)):=(JT _ _).trans (PJ a c d e f h)
theorem j1:(prog.info? 230).map (·.size)=some 5:=by kernel_rfl
theorem ow {B:Nat} (h:Below B w w1) {b:Nat} (a:B<=b) (c d e f g:Value):Below B w (((((w1.setCell ⟨b,0,none⟩ c).setCell ⟨b,1,none⟩ d).setCell ⟨b,2,none⟩ e).setCell ⟨b,3,none⟩ f).setCell ⟨b,4,none⟩ g):=
   ((((h.setCell (p:=⟨b,0,none⟩) a _).setCell (p:=⟨b,1,none⟩) a _).setCell (p:=⟨b,2,none⟩) a _).setCell (p:=⟨b,3,none⟩) a _).setCell (p:=⟨b,4,none⟩) a _
theorem JU (a:Option Addr) (n c:Nat) (l:List Int) (w:World) (i:Src w a n l) (g:Bytes l) (p:(aR l).2≠0\/(aR l).1.length<12):
  Calls prog 193 #[.slice a n c] w λe w'=>e= .returned (kW 0 0 0 0 none 0 0)/\bW w w':=by
 have d:=Cn a n c l (w.alloc (.cells (eI 0 0 0 0 none 0 0) 230)) (i.later (aI _ _)) g;generalize aR l=Y at*;go_in;go_wp2_with fail;refine d.mono ?_;rintro e w1 ⟨v,rfl,⟨m,o,rfl,ed,_,_⟩,aq⟩;have b:=(aq.block _ (by simp)).trans (heap_alloc_new _ _);have cN:=((aI w (.cells (eI 0 0 0 0 none 0 0) 230)).trans (aq.mono (by simp)));have f:=λj=>ae b j;obtain⟨r,s,t,u,x⟩:=ey (aL b) (bD b) (bH b) (fI b) (gz b);by_cases q:Y.2=0
 .have k:(Y.1.length:Int)<12:=by omega
  rw [q] at d;go_wp2;exact bodyPost_ret (results_cell_row (P:=prog) rfl _ _ w.heap.size 230 _ (0,0) _ rfl (PJ _ _ _ _ _ b) underlying230 rfl j1) rfl ⟨rfl,ow cN (bP _) _ _ _ _ _⟩
 .have k:(((Y.2:Nat):Int) == 0)=false:=by rw [eG];omega
  go_wp2;exact bodyPost_ret (results_cell_row (P:=prog) rfl _ _ w.heap.size 230 _ (0,0) _ rfl (PJ _ _ _ _ _ b) underlying230 rfl j1) rfl ⟨rfl,ow cN (bP _) _ _ _ _ _⟩
theorem JV (a:Option Addr) (n c:Nat) (l:List Int) (w:World) (N:Src w a n l) (I:Bytes l) (M:(aR l).2=0) (qC:12<=(aR l).1.length):
  Calls prog 193 #[.slice a n c] w λe w'=>∃a' k,e= .returned (kW ((jZ (aR l).1).e:Int) ((jZ (aR l).1).p:Int) ((jZ (aR l).1).i:Int) ((jZ (aR l).1).c:Int) a' (jZ (aR l).1).d.length k)/\Src w' a' (jZ (aR l).1).d.length (jZ (aR l).1).d/\(∀y,a'=some y->w.heap.size<y.block)/\bW w w':=by
 have z:=Cn a n c l (w.alloc (.cells (eI 0 0 0 0 none 0 0) 230)) (N.later (aI _ _)) I;have r:=pG I;rw [M] at z;generalize (aR l).1=Y at*;have aoM:¬(Y.length:Int)<12:=by omega
 go_in;go_wp2_with fail;refine z.mono ?_;rintro e w1 ⟨v,rfl,⟨U,m,rfl,ed,A2,ox⟩,aq⟩;obtain⟨b,o,rfl⟩:=cT ed (by omega);have QP:=ox _ rfl;have s:=(aq.block _ (by simp)).trans (heap_alloc_new _ _);have cN:=((aI w (.cells (eI 0 0 0 0 none 0 0) 230)).trans (aq.mono (by simp)));have f:=λj=>ae s j;obtain⟨k0,k1,k2,k3,k4⟩:=ey (aL s) (bD s) (bH s) (fI s) (gz s);have Q:=λwx (g:∀a,World.cell? wx a=w1.cell? a) t=>oo b o 4 t (Y.take 4) wx (r.take 4) (by simp;omega) (by omega) (λi q=>(g _).trans (by have:=yY ed 0 4 (by omega) i q;rwa [List.drop_zero,Nat.add_zero] at this));have R:=λwx (g:∀a,World.cell? wx a=w1.cell? a) t=>oo b (o+4) 4 t ((Y.drop 4).take 4) wx ((r.drop 4).take 4) (by simp;omega) (by omega) (λi q=>(g _).trans (yY ed 4 4 (by omega) i q));have S:=λwx (g:∀a,World.cell? wx a=w1.cell? a) t=>oo b (o+8) 2 t ((Y.drop 8).take 2) wx ((r.drop 8).take 2) (by simp;omega) (by omega) (λi q=>(g _).trans (yY ed 8 2 (by omega) i q));have T:=λwx (g:∀a,World.cell? wx a=w1.cell? a) t=>oo b (o+10) 2 t ((Y.drop 10).take 2) wx ((r.drop 10).take 2) (by simp;omega) (by omega) (λi q=>(g _).trans (yY ed 10 2 (by omega) i q));have W:(4:Int)<=(m:Int):=by omega
 have X:(8:Int)<=(m:Int):=by omega
 have J:(10:Int)<=(m:Int):=by omega
 have K:(12:Int)<=(m:Int):=by omega
 have Z:(Y.length:Int)<=(m:Int):=by omega
 have n0:¬m=0:=by omega
 have n4:¬m=4:=by omega
 have n8:¬m=8:=by omega
 have O:¬m=10:=by omega
 obtain⟨C,D,E,F,H⟩:=ey Q R S T s;by_cases G:m=12
 .have Vg:Y.length=12:=by omega
  have acG:((jZ Y).d= []):=List.eq_nil_of_length_eq_zero (by simp [jZ,Vg]);subst G;rw [Vg] at*;go_wp2_with fail;go_region_held3 (λ_=>True) (trivial)
   (first
    |(go_at_call 226;refine(C w1.drew (λ_=>rfl) 12).mono ?_;clear C;rintro e u ⟨rfl,g⟩;subst g)
    |(go_at_call 226;refine(D w1.drew (λ_=>rfl) (8)).mono ?_;clear D;rintro e u ⟨rfl,g⟩;subst g)
    |(go_at_call 226;refine(E w1.drew (λ_=>rfl) (4)).mono ?_;clear E;rintro e u ⟨rfl,g⟩;subst g)
    |(go_at_call 226;refine(F w1.drew (λ_=>rfl) (2)).mono ?_;clear F;rintro e u ⟨rfl,g⟩;subst g))
  go_wp2;refine bodyPost_ret (results_cell_row (P:=prog) rfl _ _ w.heap.size 230 _ (0,0) _ rfl (Cs _ _ _ _ _ H) underlying230 rfl j1) rfl ⟨some (aD b o),0,?_,?_,?_,ai (ow cN (bP _) _ _ _ _ _)⟩
  .rw [acG];rfl
  .rw [acG];exact⟨rfl,λ_=>rfl,λx s i q=>by cases q⟩
  .intro y A;cases A;simp at QP;show w.heap.size<b;omega
 .go_wp2_with fail;go_region_held3 (λ_=>True) (trivial)
   (first
    |(go_at_call 226;refine(C w1.drew (λ_=>rfl) m).mono ?_;clear C;rintro e u ⟨rfl,g⟩;subst g)
    |(go_at_call 226;refine(D w1.drew (λ_=>rfl) (m-4)).mono ?_;clear D;rintro e u ⟨rfl,g⟩;subst g)
    |(go_at_call 226;refine(E w1.drew (λ_=>rfl) (m-8)).mono ?_;clear E;rintro e u ⟨rfl,g⟩;subst g)
    |(go_at_call 226;refine(F w1.drew (λ_=>rfl) (m-10)).mono ?_;clear F;rintro e u ⟨rfl,g⟩;subst g))
  go_wp2;have sX:(jZ Y).d.length=Y.length-12:=by simp [jZ]
  refine bodyPost_ret (results_cell_row (P:=prog) rfl _ _ w.heap.size 230 _ (0,0) _ rfl (Cs _ _ _ _ _ H) underlying230 rfl j1) rfl ⟨some ⟨b,o+12,none⟩,m-12,?_,?_,?_,ai (ow cN (bP _) _ _ _ _ _)⟩
  .rw [sX];rfl
  .rw [sX];have z:=Nk ed 12 (Y.length-12) (by omega);rw [nh (by simp)] at z;have L:=z.nB (JS w1 w.heap.size (iV ((le (Y.take 4):Nat):Int)) (iV ((le ((Y.drop 4).take 4):Nat):Int)) (iV ((le ((Y.drop 8).take 2):Nat):Int)) (iV ((le ((Y.drop 10).take 2):Nat):Int)) (.slice (some ⟨b,o+12,none⟩) (Y.length-12) (m-12))) (λy A _ e=>by cases A;simp at QP e;omega);exact L.later (ai (bi _ _))
  .intro y A;cases A;simp at QP;show w.heap.size<b;omega
theorem Gb (a:Option Addr) (n c:Nat) (l:List Int) (w:World) (f:Src w a n l) (b:Bytes l):
  Calls prog 193 #[.slice a n c] w λe w'=>∃a' k,e= .returned (kW ((cF l).e:Int) ((cF l).p:Int) ((cF l).i:Int) ((cF l).c:Int) a' (cF l).d.length k)/\Src w' a' (cF l).d.length (cF l).d/\(∀y,a'=some y->w.heap.size<y.block)/\bW w w':=by
 by_cases q:(aR l).2≠0\/(aR l).1.length<12
 .refine(JU a n c l w f b q).mono ?_;rintro e w' ⟨rfl,eC⟩;unfold cF;rw [aE q];exact⟨none,0,rfl,⟨rfl,λ_=>rfl,λx g=>by cases g⟩,λy j=>(by cases j),eC⟩
 .refine(JV a n c l w f b (by omega) (by omega)).mono ?_;rintro e w' h;unfold cF;rw [aA q];exact h
def lu (w:World) (B g i:Nat) (q:PC):Prop:=
 ∃a k,w.cell? ⟨g,i*5,none⟩=some (iV (q.e:Int))/\w.cell? ⟨g,i*5+1,none⟩=some (iV (q.p:Int))/\w.cell? ⟨g,i*5+2,none⟩=some (iV (q.i:Int))/\w.cell? ⟨g,i*5+3,none⟩=some (iV (q.c:Int))/\
  w.cell? ⟨g,i*5+4,none⟩=some (.slice a q.d.length k)/\Src w a q.d.length q.d/\∀y,a=some y->B<=y.block
theorem lu.au {B:Nat} {q:PC} (h:lu w B g i q) (c:aa F w w') (t:¬F g) (p:∀k,F k->k<B):lu w' B g i q:=by
 obtain⟨a,k,h0,f,j,l,m,n,b⟩:=h;have e:∀o v,w.cell? (aD g o)=some v->w'.cell? (aD g o)=some v:=λo v d=>by
  have r:=World.block_lt_of_cell? _ _ d;exact(World.cell?_of_block (w:=w) (a:=(aD g o)) (c.block g r t)).trans d
 exact⟨a,k,e _ _ h0,e _ _ f,e _ _ j,e _ _ l,e _ _ m,n.nB c (λy u _ s=>by have:=b y u;have:=p _ s;omega),b⟩
theorem lu.later {B:Nat} {q:PC} (h:lu w B g i q) (a:bW w w'):lu w' B g i q:=h.au (aa.ah (λ_=>False) a) (λh=>h) (λ_ h=>h.elim)
theorem JW:(prog.info? 230).map (λi=>(i.zero,i.size,i.bytes))=some (some (kW 0 0 0 0 none 0 0),5,56):=by kernel_rfl
theorem Nl {T:TypeId} (m:w.heap[g]? =some (.cells cur T (0,0))) (n:j+5<=cur.size) (a b c d e:Value):
  ∃cur',(((((w.setCell ⟨g,j,none⟩ a).setCell ⟨g,j+1,none⟩ b).setCell ⟨g,j+2,none⟩ c).setCell ⟨g,j+3,none⟩ d).setCell ⟨g,j+4,none⟩ e).heap[g]? =some (.cells cur' T (0,0))/\cur'.size=cur.size/\
   cur'[j]? =some a/\cur'[j+1]? =some b/\cur'[j+2]? =some c/\cur'[j+3]? =some d/\cur'[j+4]? =some e/\∀o,o<j\/j+5<=o->cur'[o]? =cur[o]? :=by
 have h0:=heap_setCell_same w g j _ T a m;have f:=heap_setCell_same _ g (j+1) _ T b h0;have i:=heap_setCell_same _ g (j+2) _ T c f;have k:=heap_setCell_same _ g (j+3) _ T d i;have l:=heap_setCell_same _ g (j+4) _ T e k;refine⟨_,l,by simp,?_,?_,?_,?_,?_,?_⟩
 .rw [Array.getElem?_setIfInBounds_ne (by omega),Array.getElem?_setIfInBounds_ne (by omega),Array.getElem?_setIfInBounds_ne (by omega),Array.getElem?_setIfInBounds_ne (by omega),Array.getElem?_setIfInBounds_self_of_lt (by omega)]
 .rw [Array.getElem?_setIfInBounds_ne (by omega),Array.getElem?_setIfInBounds_ne (by omega),Array.getElem?_setIfInBounds_ne (by omega),Array.getElem?_setIfInBounds_self_of_lt (by simp;omega)]
 .rw [Array.getElem?_setIfInBounds_ne (by omega),Array.getElem?_setIfInBounds_ne (by omega),Array.getElem?_setIfInBounds_self_of_lt (by simp;omega)]
 .rw [Array.getElem?_setIfInBounds_ne (by omega),Array.getElem?_setIfInBounds_self_of_lt (by simp;omega)]
 .rw [Array.getElem?_setIfInBounds_self_of_lt (by simp;omega)]
 .intro o p;rw [Array.getElem?_setIfInBounds_ne (by omega),Array.getElem?_setIfInBounds_ne (by omega),Array.getElem?_setIfInBounds_ne (by omega),Array.getElem?_setIfInBounds_ne (by omega),Array.getElem?_setIfInBounds_ne (by omega)]
theorem tK (w1:World) (b j:Nat) (a c d e f:Value):aa (λk=>k=b) w1 (((((w1.setCell ⟨b,j,none⟩ a).setCell ⟨b,j+1,none⟩ c).setCell ⟨b,j+2,none⟩ d).setCell ⟨b,j+3,none⟩ e).setCell ⟨b,j+4,none⟩ f):=
   ((((aJ (F:=λk=>k=b) w1 rfl j a).trans (aJ (F:=λk=>k=b) _ rfl (j+1) c) (λ_ h=> .inl h)).trans (aJ (F:=λk=>k=b) _ rfl (j+2) d) (λ_ h=> .inl h)).trans (aJ (F:=λk=>k=b) _ rfl (j+3) e) (λ_ h=> .inl h)).trans (aJ (F:=λk=>k=b) _ rfl (j+4) f) (λ_ h=> .inl h)
def gS (w:World) (B g n k:Nat) (R:Nat->PC):Prop:=(∃cur,w.heap[g]? =some (.cells cur 230 (0,0))/\cur.size=n*5)/\∀i,i<k->lu w B g i (R i)
theorem gS.au {B:Nat} {R:Nat->PC} (h:gS w B g n k R) (c:aa F w w') (b:¬F g) (e:∀k,F k->k<B):gS w' B g n k R:=by
 obtain⟨⟨cur,a,j⟩,d⟩:=h;exact⟨⟨cur,(c.block g (aw a) b).trans a,j⟩,λi f=>(d i f).au c b e⟩
theorem gS.lt {B:Nat} {R:Nat->PC} (h:gS w B g n k R):g<w.heap.size:=by
 obtain⟨⟨cur,a,c⟩,b⟩:=h;exact aw a
theorem gS.spot {B:Nat} {R:Nat->PC} (h:gS w B g n k R) (d:k<n):∀j,j<5->∃v,w.cell? ⟨g,k*5+j,none⟩=some v:=by
 obtain⟨⟨cur,a,e⟩,b⟩:=h;intro j c;have bm:k*5+j<cur.size:=by omega
 exact⟨cur[k*5+j],aj a (by simp [bm])⟩
theorem gS.fz {B:Nat} {R:Nat->PC} (h:gS w B g n k R) (j:Nat):w.frozen? (aD g j)=false:=by
 obtain⟨⟨cur,a,c⟩,b⟩:=h;exact ae a j
theorem gS.snoc {B:Nat} {R:Nat->PC} (h:gS w B g n k R) (O:k<n) (E:g<B) (a:Option Addr) (c:Nat) (G:Src w a (R k).d.length (R k).d) (l:∀y,a=some y->B<=y.block):
  gS (((((w.setCell ⟨g,k*5,none⟩ (.int .i64 ((R k).e:Int))).setCell ⟨g,k*5+1,none⟩ (.int .i64 ((R k).p:Int))).setCell ⟨g,k*5+2,none⟩ (.int .i64 ((R k).i:Int))).setCell ⟨g,k*5+3,none⟩ (.int .i64 ((R k).c:Int))).setCell ⟨g,k*5+4,none⟩ (.slice a (R k).d.length c)) B g n (k+1) R:=by
 obtain⟨⟨cur,m,ef⟩,D⟩:=h;obtain⟨b,T9,aoO,t,u,x,z,A,C⟩:=Nl m (j:=k*5) (by omega) (iV ((R k).e:Int)) (iV ((R k).p:Int)) (iV ((R k).i:Int)) (iV ((R k).c:Int)) (.slice a (R k).d.length c);have fP:=tK w g (k*5) (iV ((R k).e:Int)) (iV ((R k).p:Int)) (iV ((R k).i:Int)) (iV ((R k).c:Int)) (.slice a (R k).d.length c);refine⟨⟨b,T9,by omega⟩,λi N=>?_⟩;by_cases e:i=k
 .subst e;exact⟨a,c,aj T9 t,aj T9 u,aj T9 x,aj T9 z,aj T9 A,G.nB fP (λy f _ e=>by have:=l y f;omega),l⟩
 .obtain⟨s,c',I,J,K,p3,L,M,r⟩:=D i (by omega);have q:∀o v,o<k*5\/k*5+5<=o->w.cell? (aD g o)=some v->(((((w.setCell ⟨g,k*5,none⟩ (.int .i64 ((R k).e:Int))).setCell ⟨g,k*5+1,none⟩ (.int .i64 ((R k).p:Int))).setCell ⟨g,k*5+2,none⟩ (.int .i64 ((R k).i:Int))).setCell ⟨g,k*5+3,none⟩ (.int .i64 ((R k).c:Int))).setCell ⟨g,k*5+4,none⟩ (.slice a (R k).d.length c)).cell? (aD g o)=some v:=λo v F H=>by
   refine aj T9 ((C o F).trans ?_);simpa [World.cell?,m] using H
  exact⟨s,c',q _ _ (by omega) I,q _ _ (by omega) J,q _ _ (by omega) K,q _ _ (by omega) p3,q _ _ (by omega) L,M.nB fP (λy f _ e=>by have:=r y f;omega),r⟩
def L4 (lo:Nat) (w:World) (n:Nat) (R:Nat->PC) (v:Value):Prop:=∃g B,v= .slice (some (aD g 0)) n n/\lo<=g/\g<B/\gS w B g n n R
theorem lu.range {B:Nat} {q:PC} (h:lu w B g i q):∃a k,w.rangeAt g (i*5) (eI (q.e:Int) (q.p:Int) (q.i:Int) (q.c:Int) a q.d.length k).toList/\Src w a q.d.length q.d/\∀y,a=some y->B<=y.block:=by
 obtain⟨a,k,h0,f,l,m,n,o,r⟩:=h;refine⟨a,k,λj v b=>?_,o,r⟩
 match j,b with
 |0,b=>cases b;exact h0
 |1,b=>cases b;exact f
 |2,b=>cases b;exact l
 |3,b=>cases b;exact m
 |4,b=>cases b;exact n
 |j+5,b=>simp at b
theorem L5 {B:Nat} {R:Nat->PC} (h:gS w B g n n R) (x:n<=256):
  Calls prog 154 #[.slice (some (aD g 0)) n n] w λe w'=>e= .returned (iV ((rtop R n:Nat):Int))/\bW w w':=by
 have H:=yh h;go_in;go_wp2;go_loopw [3,8] (λr i wr=>∃k:Nat,k<=n/\i=iV k/\r=iV ((rtop R k:Nat):Int)/\bW w wr) (λ_ i _=>n-(intOf i).toNat);case atStart=>exact⟨0,dU _,rfl,rfl,bi _ _⟩
 case round=>
  obtain⟨k,v,rfl,rfl,j⟩:=hrel;by_cases q:k<n
  .have u:(k:Int)<(n:Int):=(by omega);have y:(0:Int)<=(k:Int):=(by omega);obtain⟨a,c,mI,_,_⟩:=((H.o.2 k q).later j).range;have b:=yh mI;have s:=xC R k;have f:=yh (λo=>j.trans ((aI wr o).mono j.size));by_cases m:(R k).e<=1073741824
   .have t:((R k).e:Int)<=1073741824:=(by omega);have l:Yh (rtop R (k+1)=max (rtop R k) (R k).e):=(by rw [rtop,aE m];exact rfl);go_wp2_with (refine wpList_load_mid rfl 230 _ rfl g (k*5) rfl (eI ((R k).e:Int) ((R k).p:Int) ((R k).i:Int) ((R k).c:Int) a (R k).d.length c).toList _ b.o underlying230 rfl j1 ?_);go_roundw;case rel=>exact⟨k+1,by omega,by go_num,by rw [l.out];congr 1;omega,f.o _⟩
    case measure=>simp [intOf];omega
   .have t:¬((R k).e:Int)<=1073741824:=(by omega);have l:Yh (rtop R (k+1)=rtop R k):=(by rw [rtop,aA m];exact rfl);go_wp2_with (refine wpList_load_mid rfl 230 _ rfl g (k*5) rfl (eI ((R k).e:Int) ((R k).p:Int) ((R k).i:Int) ((R k).c:Int) a (R k).d.length c).toList _ b.o underlying230 rfl j1 ?_);go_roundw;case rel=>exact⟨k+1,by omega,by go_num,by rw [l.out],f.o _⟩
    case measure=>simp [intOf];omega
  .have u:¬(k:Int)<(n:Int):=(by omega);obtain rfl:k=n:=(by omega);have f:=yh j;go_wp2;go_ret;exact⟨rfl,f.o⟩
section
def Gc (q:PC) (E P i c:Nat):Bool:=decide (q.e=E/\q.p=P/\q.i=i/\q.c=c/\0<q.d.length/\(i+1≠c->q.d.length=492)/\1<=c/\c<=17)
theorem DR {q:PC} {E:Nat}:Gc q E P i c=true↔q.ok E P i c/\1<=c/\c<=17:=by
 unfold Gc PC.ok;rw [decide_eq_true_iff];constructor
 .rintro ⟨a,b,d,e,f,g,j,k⟩;exact⟨⟨a,b,d,e,f,g⟩,j,k⟩
 .rintro ⟨⟨a,b,d,e,f,g⟩,j,k⟩;exact⟨a,b,d,e,f,g,j,k⟩
structure SS where
 rs:List (List Int)
 rc:List Int
 hd:Nat
 ps:Nat
 j:Nat
 c:Nat
section
variable (R:Nat->PC) (E T n:Nat)
def SS.due (st:SS) (x:Nat):Nat:=if st.j=0 then (R ((T+x)%n)).c else st.c
def SS.tL (st:SS) (x:Nat):Bool:=Gc (R ((T+x)%n)) E (T+x) st.j (st.due R T n x)
def SS.next (st:SS) (x:Nat):SS:=
 if (R ((T+x)%n)).i+1=(R ((T+x)%n)).c then ⟨st.rs ++ [st.rc ++ (R ((T+x)%n)).d], [],T+x+1,T+x,0,st.due R T n x⟩
 else ⟨st.rs,st.rc ++ (R ((T+x)%n)).d,st.hd,T+x,st.j+1,st.due R T n x⟩
def SS.start:SS:=⟨[], [],T,0,0,0⟩
def srun:List Nat->SS->Option SS
 | [],st=>some st
 |x :: xs,st=>if st.tL R E T n x=true then srun xs (st.next R T n x) else none
end
theorem Ct (R:Nat->PC) (E T n:Nat):∀(xs:List Nat) (a L6:SS) (x:Nat),srun R E T n xs a=some L6->L6.tL R E T n x=true->srun R E T n (xs ++ [x]) a=some (L6.next R T n x)
 | [],a,L6,x,h,hg=>by
  cases h;show (if _ then _ else _)=_;rw [aE hg];rfl
 |y :: ys,a,L6,x,h,hg=>by
  show (if a.tL R E T n y=true then srun R E T n (ys ++ [x]) (a.next R T n y) else none)=_;unfold srun at h;split at h
  .rename_i b;rw [aE b];exact Ct R E T n ys _ L6 x h hg
  .cases h
theorem sq (R:Nat->PC) (E T n:Nat):∀(xs:List Nat) (a L6:SS) (x:Nat),srun R E T n (xs ++ [x]) a=some L6->∃s1,srun R E T n xs a=some s1/\s1.tL R E T n x=true/\L6=s1.next R T n x
 | [],a,L6,x,h=>by
  have h:(if a.tL R E T n x=true then srun R E T n [] (a.next R T n x) else none)=some L6:=h;split at h
  .rename_i b;cases h;exact⟨a,rfl,b,rfl⟩
  .cases h
 |y :: ys,a,L6,x,h=>by
  have h:(if a.tL R E T n y=true then srun R E T n (ys ++ [x]) (a.next R T n y) else none)=some L6:=h;split at h
  .rename_i b;obtain⟨s1,c,d,e⟩:=sq R E T n ys _ L6 x h;refine⟨s1,?_,d,e⟩;show (if _ then _ else _)=_;rw [aE b];exact c
  .cases h
theorem yZ (R:Nat->PC) (E T n:Nat) (hd:∀i,(R i).d.length<=492) (g:∀i,(R i).c<=65536):∀(k:Nat) (xs:List Nat) (a:SS),xs.length=k->srun R E T n xs (SS.start T)=some a->a.rs.length<=k/\a.rc.length<=492*k/\a.j<=k/\a.c<=65536
 |0,xs,a,hl,h=>by
  obtain rfl:=List.eq_nil_of_length_eq_zero hl;cases h;exact⟨bP _,bP _,bP _,dU _⟩
 |k+1,xs,a,hl,h=>by
  obtain⟨b,x,rfl⟩:∃b x,xs=b ++ [x]:=by
   have dG:xs≠ []:=(by intro e;rw [e] at hl;cases hl);exact⟨xs.dropLast,xs.getLast dG,(List.dropLast_concat_getLast dG).symm⟩
  obtain⟨s1,l,m,rfl⟩:=sq R E T n b _ a x h;have q:=yZ R E T n hd g k b s1 (by simpa using hl) l;have o:=hd ((T+x)%n);have p:=g ((T+x)%n);have f:s1.due R T n x<=65536:=by unfold SS.due;split <;> omega
  unfold SS.next;split
  .refine⟨?_,?_,?_,f⟩
   .simp;omega
   .simp
   .simp
  .refine⟨?_,?_,?_,f⟩
   .show s1.rs.length<=_;omega
   .show (s1.rc ++ _).length<=_;rw [dT];omega
   .show s1.j+1<=_;omega
def Rp (R:Nat->PC) (n:Nat) (P:Nat):PC:=R (P%n)
theorem tM (R:Nat->PC) (n:Nat) (q:Nat):Rp R n (q+n)=Rp R n q:=by unfold Rp;rw [Nat.add_mod_right]
theorem SS.QQ (R:Nat->PC) (T n:Nat) {a:SS} (b:a.hd+a.j=T+k):a.due R T n k=nz (Rp R n) a.hd a.j a.c:=by
 unfold SS.due nz;split
 .rename_i h;rw [show T+k=a.hd by omega];rfl
 .rfl
theorem uX (R:Nat->PC) (E T n:Nat):∀(k:Nat) (b:SS),srun R E T n (List.range k) (SS.start T)=some b->Scan (Rp R n) E T b.rs b.hd b.j b.c b.rc/\b.hd+b.j=T+k
 |0,b,h=>by
  cases h;exact⟨Scan.start _ _ _ _,rfl⟩
 |k+1,b,h=>by
  rw [List.range_succ] at h;obtain⟨s1,l,a,rfl⟩:=sq R E T n _ _ b k h;obtain⟨g,f⟩:=uX R E T n k s1 l;have hd:=SS.QQ R T n f;unfold SS.tL at a;rw [DR,hd,<-f] at a;have i:R ((s1.hd+s1.j)%n)=Rp R n (s1.hd+s1.j):=rfl;rw [i] at a;unfold SS.next;rw [hd,<-f,i,a.1.2.2.1,a.1.2.2.2.1];split
  .rename_i d;refine⟨g.full a.1 a.2.2 d _,by show s1.hd+s1.j+1+0=_;omega⟩
  .rename_i d;have bm:s1.j<nz (Rp R n) s1.hd s1.j s1.c:=by
    by_cases e:s1.j=0
    .rw [e] at a⊢;omega
    .have:=(g.c (by omega)).2.2;unfold nz;rw [aA e];exact this
   refine⟨g.grow a.1 a.2.1 a.2.2 d bm,by show s1.hd+(s1.j+1)=_;omega⟩
theorem Nm (R:Nat->PC) (E T n k:Nat) (a:SS) (h:srun R E T n (List.range k) (SS.start T)=some a) (b:a.tL R E T n k=false):dC (Rp R n) E T a.rs a.hd/\∀c d,¬Rec (Rp R n) E a.hd c d:=by
 obtain⟨f,e⟩:=uX R E T n k a h;refine⟨f.t,f.ends (λg=>?_)⟩;unfold SS.tL at b;rw [(SS.QQ R T n e),<-e] at b;have:=(DR (q:=Rp R n (a.hd+a.j))).2 g;rw [show R ((a.hd+a.j)%n)=Rp R n (a.hd+a.j) from rfl,this] at b;cases b
theorem Nn (R:Nat->PC) (E T n:Nat) (e:1<=n) (a:SS) (h:srun R E T n (List.range n) (SS.start T)=some a):dC (Rp R n) E T a.rs a.hd/\∀c d,¬Rec (Rp R n) E a.hd c d:=by
 obtain⟨b,f⟩:=uX R E T n n a h;exact⟨b.t,b.round e (tM R n) f⟩
end
theorem QR:(prog.info? 228).map (·.size)=some 4:=by kernel_rfl
abbrev y9 (e q i c:Int):Value:= .agg #[iV e,iV q,iV i,iV c]
theorem Gd (e q i c:Nat) (w:World) (a:c<=100000):
  Calls prog 196 #[y9 e q i c] w λr w'=>r= .returned (.bool (decide (i+1=c)))/\bW w w':=by
 have hd:decide (i+1=c)=((i:Int) == (c:Int)-1):=by
  rw [Bool.eq_iff_iff];simp only [decide_eq_true_eq,beq_iff_eq];omega
 rw [hd];go_in;go_wp2;go_ret;exact⟨rfl,(yh (aI w (.cells #[.int .i64 (e:Int), .int .i64 (q:Int), .int .i64 (i:Int), .int .i64 (c:Int)] 228))).out⟩
theorem QS (e q i c:Nat) (w:World) (d:q<=4294967296) (f:i<=4294967296):
  Calls prog 216 #[y9 e q i c] w λr w'=>r= .returned (y9 e ((q+1:Nat):Int) ((i+1:Nat):Int) c)/\bW w w':=by
 have a:((q+1:Nat):Int)=(q:Int)+1:=by omega
 have b:((i+1:Nat):Int)=(i:Int)+1:=by omega
 rw [a,b];go_in;go_wp2;exact bodyPost_ret (results_cell_row (P:=prog) rfl _ _ (w.heap.size+1) 228 #[iV (e:Int),iV ((q:Int)+1),iV ((i:Int)+1),iV (c:Int)] (0,0) _ rfl (by have:=heap_alloc_new (w.alloc (.cells #[.int .i64 (e:Int), .int .i64 ((q:Int)+1), .int .i64 ((i:Int)+1), .int .i64 (c:Int)] 228)) (.cells #[.int .i64 (e:Int), .int .i64 ((q:Int)+1), .int .i64 ((i:Int)+1), .int .i64 (c:Int)] 228);rwa [World.size_alloc] at this) underlying228 rfl QR) rfl ⟨rfl,iI _ _ _⟩
theorem acH (q:PC) (a:Option Addr) (n k:Nat) (E P i c:Nat) (w:World) (h:¬(q.e=E/\q.p=P/\q.i=i/\q.c=c)):
  Calls prog 195 #[kW q.e q.p q.i q.c a n k,y9 E P i c] w λr w'=>r= .returned (.bool false)/\bW w w':=by
 go_in;go_wp2;all_goals first|(go_ret;exact⟨rfl,iI _ _ _⟩)|(exfalso;omega)
theorem Za (e p i c:Nat) (d:List Int) (a:Option Addr) (k:Nat) (w:World):
  Calls prog 195 #[kW e p i c a d.length k,y9 e p i c] w λr w'=>r= .returned (.bool (Gc ⟨e,p,i,c,d⟩ e p i c))/\bW w w':=by
 by_cases q:c<1
 .have Yw:(c:Int)<1:=by omega
  rw [show Gc ⟨e,p,i,c,d⟩ e p i c=false by unfold Gc;rw [decide_eq_false_iff_not];omega];go_in;go_wp2;go_ret;exact⟨rfl,iI _ _ _⟩
 .have Yw:¬(c:Int)<1:=by omega
  by_cases s:17<c
  .have j:17<(c:Int):=(by omega);rw [show Gc ⟨e,p,i,c,d⟩ e p i c=false by unfold Gc;rw [decide_eq_false_iff_not];omega];go_in;go_wp2;go_ret;exact⟨rfl,iI _ _ _⟩
  .have j:¬17<(c:Int):=(by omega);have g:=λwx=>Gd e p i c wx (by omega);have b:=yh (iI w (.cells (eI e p i c a d.length k) 230) (.cells #[.int .i64 (e:Int), .int .i64 (p:Int), .int .i64 (i:Int), .int .i64 (c:Int)] 228));have rl:((w.alloc (.cells (eI e p i c a d.length k) 230)).alloc (.cells #[.int .i64 (e:Int), .int .i64 (p:Int), .int .i64 (i:Int), .int .i64 (c:Int)] 228)).heap[w.heap.size]? =some (.cells (eI e p i c a d.length k) 230 (0,0)):=(Below.heap_alloc _ _ _ (by simp)).trans (heap_alloc_new _ _);have l:=yh rl;by_cases f:i+1=c
   .rw [show Gc ⟨e,p,i,c,d⟩ e p i c=decide (0<d.length) by unfold Gc;rw [decide_eq_decide];constructor;(intro h;exact h.2.2.2.2.1);(intro h;exact⟨rfl,rfl,rfl,rfl,h,λn=>absurd f n,by omega,by omega⟩)];rw [show decide (i+1=c)=true by rw [decide_eq_true_eq];exact f] at g;go_in;go_wp2_with fail;refine(g _).mono ?_;rintro r w1 ⟨rfl,aq⟩;have m:w1.cell? (aD w.heap.size 4)=some (.slice a d.length k):=gz ((aq.block _ (by simp;omega)).trans l.o);go_wp2;go_ret;exact⟨rfl,(yh (b.o.trans (aq.mono b.o.size))).out⟩
   .rw [show Gc ⟨e,p,i,c,d⟩ e p i c=((d.length:Int) == 492) by unfold Gc;rw [Bool.eq_iff_iff];rw [decide_eq_true_iff,beq_iff_eq];constructor;(intro h;have:d.length=492:=h.2.2.2.2.2.1 f;omega);(intro h;exact⟨rfl,rfl,rfl,rfl,by show 0<d.length;omega,λ_=>by show d.length=492;omega,by omega,by omega⟩)];rw [show decide (i+1=c)=false by rw [decide_eq_false_iff_not];exact f] at g;go_in;go_wp2_with fail;refine(g _).mono ?_;rintro r w1 ⟨rfl,aq⟩;have m:w1.cell? (aD w.heap.size 4)=some (.slice a d.length k):=gz ((aq.block _ (by simp;omega)).trans l.o);go_wp2;go_ret;exact⟨rfl,(yh (b.o.trans (aq.mono b.o.size))).out⟩
theorem QT (q:PC) (a:Option Addr) (k:Nat) (E P i c:Nat) (w:World):
  Calls prog 195 #[kW q.e q.p q.i q.c a q.d.length k,y9 E P i c] w λr w'=>r= .returned (.bool (Gc q E P i c))/\bW w w':=by
 by_cases h:q.e=E/\q.p=P/\q.i=i/\q.c=c
 .obtain⟨rfl,rfl,rfl,rfl⟩:=h;exact Za q.e q.p q.i q.c q.d a k w
 .rw [show Gc q E P i c=false by unfold Gc;rw [decide_eq_false_iff_not];exact λb=>h ⟨b.1,b.2.1,b.2.2.1,b.2.2.2.1⟩];exact acH q a q.d.length k E P i c w h
section
open Go.RowKit Go.Shelf
attribute [local go_sem] Oper.semAt_some
def Ge (n₀ b c:Nat) (W W':World):Prop:=Below n₀ W W'/\W'.heap[b]? =W.heap[b]?/\W'.heap[c]? =W.heap[c]?
theorem Ge.t {b:Nat} {A B C:World} (h:Ge n₀ b c A B) (k:Ge n₀ b c B C):Ge n₀ b c A C:=⟨h.1.trans k.1,k.2.1.trans h.2.1,k.2.2.trans h.2.2⟩
theorem Ge.b {b:Nat} (g:n₀<=w.heap.size) (i:b<w.heap.size) (j:c<w.heap.size) (W:World) (l:Nat) (o a:Obj) (f:w.heap.size<=l) (h:W.heap[l]? =some o) (d:o.isCells=false) (e:o.isWalk=false):Ge n₀ b c W (W.putObj l a):=
   ⟨belowK_b g W l o a f h d e,World.putObj_heap_other (by omega),World.putObj_heap_other (by omega)⟩
theorem Ge.refl (a b c:Nat) (W:World):Ge a b c W W:=⟨bi _ _,rfl,rfl⟩
structure Gf (w:World) (n₀ g n:Nat) (R:Nat->PC) (A:Nat->Option Addr) (C:Nat->Nat):Prop where
 lt:g<n₀
 p:∀i,i<n->w.rangeAt g (i*5) (eI ((R i).e:Int) ((R i).p:Int) ((R i).i:Int) ((R i).c:Int) (A i) (R i).d.length (C i)).toList
theorem Gf.below {R:Nat->PC} {A:Nat->Option Addr} {C:Nat->Nat} (h:Gf w n₀ g n R A C) (a:Below n₀ w w'):Gf w' n₀ g n R A C:=
   ⟨h.lt,λi b j v c=>(a.cell (p:=⟨g,i*5+j,none⟩) h.lt).trans (h.p i b j v c)⟩
theorem TQ (g n T:Nat) (w:World):
  Calls prog 194 #[.slice (some (aD g 0)) n n,iV (T:Int)] w λe w'=>e= .returned (.func (.func 227) #[] #[pQ w.heap.size, .pointer (some ⟨w.heap.size+1,0,none⟩)])/\w'=(w.alloc (.cells #[.slice (some ⟨g,0,none⟩) n n] 186)).alloc (.cells #[.int .i64 (T:Int)] 3):=by
 go_in;go_wp2;go_ret;exact⟨rfl,rfl⟩
def Vh (n T:Nat) (R:Nat->PC) (A:Nat->Option Addr) (C:Nat->Nat) (x:Fin n):Array Value:=
   #[iV ((T:Int)+(x.1:Int)),kW ((R ((T+x.1)%n)).e:Int) ((R ((T+x.1)%n)).p:Int) ((R ((T+x.1)%n)).i:Int) ((R ((T+x.1)%n)).c:Int) (A ((T+x.1)%n)) (R ((T+x.1)%n)).d.length (C ((T+x.1)%n))]
def za {n:Nat} (xs:List (Fin n)) (k:Nat):Prop:=xs.map Fin.val=List.range k
theorem za.nil:za ([]:List (Fin n)) 0:=rfl
theorem za.length {xs:List (Fin n)} (h:za xs k):xs.length=k:=by have:=congrArg List.length h;simpa using this
theorem za.snoc {xs:List (Fin n)} (h:za xs k) (a:k<n):za (xs ++ [⟨k,a⟩]) (k+1):=by
 unfold za at*;rw [List.map_append,h,List.range_succ];rfl
theorem zb {F:Fence} {P:Program} {l:Nat} {b:Array Value} {a body:Code} {A B:World->Prop}
    (h:RoundIn F n P l f b a body w λe W'=>(e= .returned (.bool true)/\A W')\/(e= .returned (.bool false)/\B W')):
  RoundIn F n P l f b a body w λe W'=>∃r,e= .returned (.bool r)/\(r=true->A W')/\(r=false->B W'):=
 h.mono λe W' h=>by
  rcases h with ⟨rfl,h⟩|⟨rfl,h⟩
  .exact⟨true,rfl,λ_=>h,λe=>by cases e⟩
  .exact⟨false,rfl,λe=>(by cases e),λ_=>h⟩
set_option maxRecDepth 100000 in
theorem TR (m:Nat) (S:1<=m) (l d c q g n T:Nat) (R:Nat->PC) (A:Nat->Option Addr) (C:Nat->Nat) (w:1<=n) (mg:n<=256) (P:T<=1073741824) (J s:List (Fin n)->World->Prop)
    (F:∀a (x:Fin n) W,J a W->a.length<n->YieldAt Fence.wide (m-1) prog l (Vh n T R A C x) W λe W'=>
     (e= .returned (.bool true)/\J (a ++ [x]) W'/\Ge q d c W W')\/(e= .returned (.bool false)/\s (a ++ [x]) W'))
    (W:World) (Ua:W.heap[d]? =some (.cells #[.slice (some ⟨g,0,none⟩) n n] 186 (0,0))) (j:W.heap[c]? =some (.cells #[.int .i64 (T:Int)] 3 (0,0))) (E:Gf W q g n R A C) (D:AbidesFrom W.heap.size J) (h0:J [] W):
  CallsIn Fence.wide m prog 227 #[.func (.yield l) #[] #[],pQ d,pQ c] W λe W'=>(∃v,e= .returned v)/\
     ((∃ys,za ys n/\J ys W')\/(∃a,(∃k,k<n/\za a (k+1))/\s a W')):=by
 have xZ:=aL Ua;refine callsIn_of_wp func227 rfl trivial ?_ rfl;simp only [ntmps227,List.size_toArray,List.length_cons,List.length_nil,Nat.reduceAdd,Nat.reduceSub,Array.replicate_succ,Array.replicate_zero,List.push_toArray,List.append_toArray,List.nil_append,List.cons_append]
 gi_wp2
 gi_loopw [8] (λi wr=>∃(k:Nat) (a:List (Fin n)),k<=n/\i=iV k/\za a k/\J a wr/\Ge q d c W wr)
    (λi _=>n-(intOf i).toNat)
 case atStart=>exact⟨0, [],dU _,rfl,za.nil,h0,Ge.refl _ _ _ _⟩
 case round=>
  obtain⟨k,a,Q,rfl,pK,b,fP⟩:=hrel;have u:=pK.length;by_cases bm:k<n
  .have ed:=aL (fP.2.1.trans Ua);have oY:=aL (fP.2.2.trans j);obtain⟨O,y,f,body,H,o⟩:=F a ⟨k,bm⟩ wr.drew (D a wr wr.drew none b ⟨rfl,rfl,rfl,bP _,λ_ _ _=>rfl⟩ (λr e=>by cases e)) (by omega);have Zb:prog.follows .mixedOrders=true:=(by kernel_rfl);have cw:(k:Int)<(n:Int):=(by omega);have mI:=(E.below fP.1).p ((T+k)%n) (Nat.mod_lt _ w);have G:=Nat.mod_lt (T+k) w;have U:((T:Int)+(k:Int)).tmod (n:Int)=(((T+k)%n:Nat):Int):=(by rw [Int.tmod_eq_emod_of_nonneg (by omega),<-Int.natCast_add,<-Int.natCast_emod]);have l8:((T:Int)+(k:Int))%(n:Int)=(((T+k)%n:Nat):Int):=by rw [<-Int.natCast_add,<-Int.natCast_emod]
   dsimp only [Vh] at H
   generalize (T+k)%n=x at*;obtain⟨z,K,L,M,N⟩:=ey (mI 0 _ rfl) (mI 1 _ rfl) (mI 2 _ rfl) (mI 3 _ rfl) (mI 4 _ rfl);rw [Nat.add_zero] at z;have aoP:(x:Int)<(n:Int):=(by omega);have rl:(0:Int)<=(x:Int):=by omega
   gi_wp2
   gi_region_with_o ((refine(zb o).mono ?_;rintro e I ⟨r,rfl,lG,fb⟩;have Cu:=lG;have zc:=fb;clear lG fb))
   all_goals
    cases r
    .gi_wp2
     refine bodyPost_ret (results_none rfl _ _ _) rfl ?_;exact⟨⟨_,rfl⟩, .inr ⟨_,⟨k,bm,pK.snoc bm⟩,zc (by simp)⟩⟩
    .gi_wp2
     go_roundw;case rel=>exact⟨k+1,_,by omega,by go_num,pK.snoc bm,(Cu (by simp)).1,fP.t (Ge.t (B:=wr.drew) ⟨ai (bi _ _),rfl,rfl⟩ (Cu (by simp)).2)⟩
     case measure=>simp [intOf];omega
  .obtain rfl:k=n:=by omega
   gi_wp2
   go_end0
   exact⟨⟨_,rfl⟩, .inl ⟨a,pK,b⟩⟩
theorem LA (m:Nat) (r:1<=m) (c b d g n T:Nat) (R:Nat->PC) (A:Nat->Option Addr) (C:Nat->Nat) (s:1<=n) (mg:n<=256) (p:T<=1073741824) (w:World) (kT:d<=w.heap.size)
    (Ua:w.heap[c]? =some (.cells #[.slice (some ⟨g,0,none⟩) n n] 186 (0,0))) (a:w.heap[b]? =some (.cells #[.int .i64 (T:Int)] 3 (0,0))) (o:Gf w d g n R A C):
  SeqStopsK Fence.wide m prog 227 #[pQ c,pQ b] (Vh n T R A C) (Ge d c b) (λt=>za t n) (λf=>∃k,k<n/\za f (k+1)) n w:=
 λl J i W e j _ q h0=>TR m r l c b d g n T R A C s mg p J i q W ((e.block _ (aw Ua)).trans Ua) ((e.block _ (aw a)).trans a) (o.below (e.mono kT)) j h0
end
def dQ (W:World) (B:Nat) (v:Value) (rs:List (List Int)) (X:Nat->Prop):Prop:=
 ∃vs,W.ownsRow B 36 1 v rs.length vs/\∀i (hi:i<rs.length),∃g c,vs[i]? =some (.slice (some (aD g 0)) (rs[i]).length c)/\ay W 5 g c (bs rs[i])/\B<=g/\¬X g
theorem dQ.nil (W:World) (B:Nat) (X:Nat->Prop):dQ W B (.slice none 0 0) [] X:=⟨[],World.ownsRow_nil _ _ _ _,λi a=>by cases a⟩
def ko (W W':World):Prop:=∀(b:Nat) (cur:Array Value) (t:TypeId) (fz:Nat×Nat),W.heap[b]? =some (Obj.cells cur t fz)->W'.heap[b]? =some (Obj.cells cur t fz)
theorem bJ {B:Nat} (h:W.ownsRow B e 1 v n xs) (a:v.ownBlock=some g):∃cur,W.heap[g]? =some (.cells cur e (0,0)):=by
 obtain⟨_,⟨rfl,_⟩|⟨d,b,cur,rfl,_,c,_⟩⟩:=h
 .simp [Value.ownBlock] at a
 .simp [Value.ownBlock] at a;subst a;exact⟨cur,c⟩
theorem em {B:Nat} (h:W.ownsRow B e 1 v n xs) (d:∀g,v.ownBlock=some g->W'.heap[g]? =W.heap[g]?):W'.ownsRow B e 1 v n xs:=by
 obtain⟨b,h|⟨g,a,cur,rfl,f,sd,c⟩⟩:=h
 .exact⟨b, .inl h⟩
 .exact⟨b, .inr ⟨g,a,cur,rfl,f,(d g rfl).trans sd,c⟩⟩
theorem dQ.step {B:Nat} (h:dQ W B v rs X) (aY:∀g,v.ownBlock=some g->W'.heap[g]? =W.heap[g]?)
    (Vi:∀g cur,W.heap[g]? =some (.cells cur 5 (0,0))->¬X g->W'.heap[g]? =W.heap[g]?) (l:∀g,g<W.heap.size->X' g->X g):dQ W' B v rs X':=by
 obtain⟨n,f,j⟩:=h;refine⟨n,em f aY,λi m=>?_⟩;obtain⟨g,c,e,b,k,d⟩:=j i m;have bm:=b.lt;obtain⟨cur,a,oM⟩:=b;exact⟨g,c,e,⟨cur,(Vi g cur a d).trans a,oM⟩,k,λh=>d (l g bm h)⟩
theorem dQ.cells {B:Nat} (h:dQ W B v rs X) (d:ko W W'):dQ W' B v rs X:=by
 obtain⟨n,b,f⟩:=h;refine⟨n,em b (λg k=>?_),λi l=>?_⟩
 .obtain⟨cur,a⟩:=bJ b k;rw [d _ _ _ _ a,a]
 .obtain⟨g,c,e,⟨cur,a,oM⟩,j,m⟩:=f i l;exact⟨g,c,e,⟨cur,d _ _ _ _ a,oM⟩,j,m⟩
theorem Own.cells {B:Nat} (h:Own W B v l) (b:ko W W'):Own W' B v l:=
 em h (λg c=>by
  obtain⟨cur,a⟩:=bJ h c;rw [b _ _ _ _ a,a])
structure jq (W:World) (B0 B E:Nat) (st:SS) (vR vr:Value):Prop where
 r:Boxed W B0 62 vR
 c:Boxed W (B0+1) 36 vr
 h:Boxed W (B0+2) 3 (iV (st.hd:Int))
 d:W.heap[B0+3]? =some (.cells #[.int .i64 (E:Int), .int .i64 (st.ps:Int), .int .i64 (st.j:Int), .int .i64 (st.c:Int)] 228 (0,0))
 rs:dQ W B vR st.rs (λk=>vr.ownBlock=some k)
 rc:Own W B vr st.rc
 lo:B0+6<=B
theorem jq.cells {B:Nat} {b:SS} (h:jq W B0 B E b vR vr) (a:ko W W'):jq W' B0 B E b vR vr:=
   ⟨a _ _ _ _ h.r,a _ _ _ _ h.c,a _ _ _ _ h.h,a _ _ _ _ h.d,h.rs.cells a,h.rc.cells a,h.lo⟩
theorem el (a:bW W W'):ko W W':=λb _ _ _ h=>(a.block b (aw h)).trans h
theorem i6 {row:Option Nat} (d:W.grownBy W' row) (f:∀r,row=some r->∃o:Obj,W.heap[r]? =some o/\o.isCells=false):ko W W':=λb cur t g h=>by
 refine(d.block b (aw h) (λe=>?_)).trans h;obtain⟨o,a,c⟩:=f b e.symm;rw [h] at a;cases a;cases c
theorem jn {B:Nat} (h:W.ownsRow B e 1 v n xs) (a:v.ownBlock=some g):B<=g:=by
 obtain⟨_,⟨rfl,_⟩|⟨c,b,cur,rfl,f,d,_⟩⟩:=h
 .simp [Value.ownBlock] at a
 .simp [Value.ownBlock] at a;omega
theorem tN {t:TypeId} {c a:Nat×Nat} (h:W.heap[g]? =some (.cells cur t c)) (b:W.heap[g]? =some (.cells cur' t' a)) (d:t≠t'):False:=by
 rw [h] at b;cases b;exact d rfl
theorem jq.grow {B:Nat} {a:SS} (h:jq W B0 B E a vR vr)
    (j:w2.ownsRow B 5 1 (.slice (some (aD g 0)) (a.rc.length+d.length) cap) (a.rc.length+d.length) (bs a.rc ++ bs d)) (i:W.grownBy w2 vr.ownBlock) (ic:vr.ownBlock=some g\/g=W.heap.size):
  Boxed w2 B0 62 vR/\Boxed w2 (B0+1) 36 vr/\Boxed w2 (B0+2) 3 (iV (a.hd:Int))/\w2.heap[B0+3]? =W.heap[B0+3]?/\
   dQ w2 B vR a.rs (λk=>k=g)/\Own w2 B (.slice (some (aD g 0)) (a.rc.length+d.length) cap) (a.rc ++ d):=by
 have ox:=h.lo;have dG:∀k,k<B->vr.ownBlock≠some k:=λk b e=>by have:=jn h.rc e;omega
 have f:∀k,k<B->k<W.heap.size->w2.heap[k]? =W.heap[k]? :=λk b n=>i.block k n (λe=>dG k b e.symm);refine⟨(f _ (by omega) h.r.lt).trans h.r,(f _ (by omega) h.c.lt).trans h.c,(f _ (by omega) h.h.lt).trans h.h,f _ (by omega) (aw h.d),?_,?_⟩
 .refine h.rs.step (λk b=>?_) (λk cur m o=>?_) (λk b e=>?_)
  .obtain⟨p,l,_⟩:=h.rs;obtain⟨cur,aq⟩:=bJ l b;refine i.block k (aw aq) (λe=>?_);obtain⟨acI,aW⟩:=bJ h.rc e.symm;exact tN aq aW (by decide)
  .exact i.block k (aw m) (λe=>o e.symm)
  .rcases ic with ic|ic
   .rw [e];exact ic
   .omega
 .rw [<-iE] at j;have:a.rc.length+d.length=(a.rc ++ d).length:=by simp
  unfold Own;rw [this] at j⊢;exact j
theorem Cv {B:Nat} {r:List Int} (aY:W.ownsRow B 36 1 v rs.length vs)
    (IY:∀i (b:i<rs.length),∃g c,vs[i]? =some (.slice (some (aD g 0)) (rs[i]).length c)/\ay W 5 g c (bs rs[i])/\B<=g) (p:ay W 5 g c (bs r)) (k:B<=g)
    (o:W'.ownsRow B 36 1 (.slice (some (aD g' 0)) (rs.length+1) QU) (rs.length+1) (vs ++ [.slice (some (aD g 0)) r.length c])) (m:W.grownBy W' v.ownBlock):
  dQ W' B (.slice (some (aD g' 0)) (rs.length+1) QU) (rs ++ [r]) (λ_=>False):=by
 have n:vs.length=rs.length:=by have:=aY.1;simpa using this
 have au:∀{x y:Nat} {l:List Int},ay W 5 x y (bs l)->ay W' 5 x y (bs l):=λ{x y l} h=>by
  obtain⟨cur,a,oM⟩:=h;refine⟨cur,(m.block x (aw a) (λe=>?_)).trans a,oM⟩;obtain⟨acI,aW⟩:=bJ aY e.symm;exact tN a aW (by decide)
 refine⟨vs ++ [.slice (some (aD g 0)) r.length c],by rw [dT];exact o,λi b=>?_⟩;by_cases e:i<rs.length
 .obtain⟨x,y,d,f,j⟩:=IY i e;refine⟨x,y,?_,?_,j,λh=>h⟩
  .rw [List.getElem?_append_left (by omega),d,List.getElem_append_left e]
  .rw [List.getElem_append_left e];exact au f
 .have nj:i=rs.length:=by simp at b;omega
  subst nj;refine⟨g,c,?_,?_,k,λh=>h⟩
  .rw [List.getElem?_append_right (by omega),n,Nat.sub_self];simp
  .simp;exact au p
theorem jq.set {f:World} {B:Nat} {n:SS} (h:jq W B0 B E n vR vr) (a:aa (λk=>k=B0+3) W f) (ps j c:Nat)
    (hd:f.heap[B0+3]? =some (.cells #[.int .i64 (E:Int), .int .i64 (ps:Int), .int .i64 (j:Int), .int .i64 (c:Int)] 228 (0,0))):jq f B0 B E {n with ps:=ps,j:=j,c:=c} vR vr:=by
 have ox:=h.lo;refine⟨(a.block _ h.r.lt (by omega)).trans h.r,(a.block _ h.c.lt (by omega)).trans h.c,(a.block _ h.h.lt (by omega)).trans h.h,hd,?_,?_,ox⟩
 .refine h.rs.step (λg b=>?_) (λg cur m _=>?_) (λ_ _ e=>e)
  .obtain⟨o,l,_⟩:=h.rs;obtain⟨cur,i⟩:=bJ l b;exact a.block g (aw i) (by have:=jn l b;omega)
  .exact a.block g (aw m) (λe=>tN m (e▸h.d) (by decide))
 .exact em h.rc (λg b=>by
   obtain⟨cur,i⟩:=bJ h.rc b;exact a.block g (aw i) (by have:=jn h.rc b;omega))
structure ir (B0:Nat) (w W W':World):Prop where
 b:bW w W'
 k:KeepsFrom (B0+6) W W'
 p:Ge B0 (B0+1+1+1+1) (B0+1+1+1+1+1) W W'
theorem ir.below (h:ir B0 w W W') (c:w.heap.size=B0) (i:B0+6<=W.heap.size) (a:bW W' W''):ir B0 w W W'':=by
 have g:=h.k.size;refine⟨h.b.trans (a.mono h.b.size),⟨jQ h.k.size a.size,λk o d e f=>?_⟩,h.p.1.trans (a.mono (by omega)),(a.block _ (by omega)).trans h.p.2.1,(a.block _ (by omega)).trans h.p.2.2⟩;have:=h.k.same k o d e f;exact(a.block k (aw this)).trans this
theorem ir.set (h:ir B0 w W W') (c:w.heap.size=B0) {b:Nat} (a:B0<=b) (aW:b<B0+4) (j:Nat) (v:Value):ir B0 w W (W'.setCell ⟨b,j,none⟩ v):=by
 refine⟨h.b.setCell (p:=⟨b,j,none⟩) (by rw [c];exact a) v,h.k.trans ((KeepsOthers.setCell _ _ _).from _),h.p.1.setCell (p:=⟨b,j,none⟩) a v,?_,?_⟩
 .exact(Below.heap_setCell W' ⟨b,j,none⟩ v _ (by show _≠b;omega)).trans h.p.2.1
 .exact(Below.heap_setCell W' ⟨b,j,none⟩ v _ (by show _≠b;omega)).trans h.p.2.2
theorem ir.start (a:bW w W):ir B0 w W W:=⟨a,KeepsFrom.refl _ _,Ge.refl _ _ _ _⟩
theorem ir.grown {row:Option Nat} (h:ir B0 w W W') (m:w.heap.size=B0) (q:B0+6<=W.heap.size) (a:W'.grownBy W'' row) (c:∀r,row=some r->B0+6<=r/\∃cur t,W'.heap[r]? =some (.cells cur t (0,0))):ir B0 w W W'':=by
 have l:=h.k.size;have dG:∀k,k<B0+6->some k≠row:=λk n e=>by have:=(c k e.symm).1;omega
 refine⟨h.b.grown a h.b.size (λk e=>by have:=(c k e).1;omega),⟨jQ h.k.size a.size,λk o i j f=>?_⟩,h.p.1.grown a (by omega) (λk e=>by have:=(c k e).1;omega),(a.block _ (by omega) (dG _ (by omega))).trans h.p.2.1,(a.block _ (by omega) (dG _ (by omega))).trans h.p.2.2⟩;have d:=h.k.same k o i j f;refine(a.block k (aw d) (λe=>?_)).trans d;obtain⟨cur,t,g⟩:=(c k e.symm).2;rw [d] at g;cases g;cases f
theorem dQ.low {B:Nat} (h:dQ W B v rs X) (p:B'<=B) (j:∀k,X' k->X k):dQ W B' v rs X':=by
 obtain⟨o,⟨d,b⟩,f⟩:=h;refine⟨o,⟨d,?_⟩,λi l=>?_⟩
 .rcases b with b|⟨g,a,cur,e,r,oM⟩
  .exact .inl b
  .exact .inr ⟨g,a,cur,e,by omega,oM⟩
 .obtain⟨g,c,e,m,q,n⟩:=f i l;exact⟨g,c,e,m,by omega,λh=>n (j _ h)⟩
theorem dQ.wT {B:Nat} (h:dQ W B v rs X) {b:Nat} (p:b<B) (j:Nat) (u:Value):dQ (W.setCell ⟨b,j,none⟩ u) B v rs X:=by
 obtain⟨o,a,d⟩:=h;refine⟨o,em a (λg l=>Below.heap_setCell W ⟨b,j,none⟩ u g (by have:=jn a l;show g≠b;omega)),λi m=>?_⟩;obtain⟨g,c,e,⟨cur,k,oM⟩,f,n⟩:=d i m;exact⟨g,c,e,⟨cur,(Below.heap_setCell W ⟨b,j,none⟩ u g (by show g≠b;omega)).trans k,oM⟩,f,n⟩
theorem Own.wT {B:Nat} (h:Own W B v l) {b:Nat} (c:b<B) (j:Nat) (u:Value):Own (W.setCell ⟨b,j,none⟩ u) B v l:=
 em h (λg a=>Below.heap_setCell W ⟨b,j,none⟩ u g (by have:=jn h a;show g≠b;omega))
theorem bU {b:Nat} {u:Value} {o:Obj} (h:W.heap[c]? =some o) (dG:c≠b):(W.setCell ⟨b,j,none⟩ u).heap[c]? =some o:=(Below.heap_setCell W ⟨b,j,none⟩ u c dG).trans h
theorem jq.more {B:Nat} {a:SS} (h:jq W B0 B E a vR vr)
    (q:w2.ownsRow B 5 1 (.slice (some (aD g 0)) (a.rc.length+d.length) cap) (a.rc.length+d.length) (bs a.rc ++ bs d)) (p:W.grownBy w2 vr.ownBlock) (ic:vr.ownBlock=some g\/g=W.heap.size) (J:Int) (o:J=((a.j+1:Nat):Int)):
  jq ((w2.setCell ⟨B0+1,0,none⟩ (.slice (some ⟨g,0,none⟩) (a.rc.length+d.length) cap)).setCell ⟨B0+3,2,none⟩ (.int .i64 J)) B0 B E {a with rc:=a.rc ++ d,j:=a.j+1} vR (.slice (some (aD g 0)) (a.rc.length+d.length) cap):=by
 subst o;have ox:=h.lo;obtain⟨e,f,i,l,m,n⟩:=h.grow q p ic;refine⟨bU (bU e (by omega)) (by omega),bU ((heap_setCell_same _ _ 0 _ _ _ f).trans (by simp)) (by omega),bU (bU i (by omega)) (by omega),?_,?_,?_,ox⟩
 .have:=heap_setCell_same _ _ 2 _ _ (iV ((a.j+1:Nat):Int)) (bU (b:=B0+1) (j:=0) (u:= .slice (some (aD g 0)) (a.rc.length+d.length) cap) (l.trans h.d) (by omega));exact this.trans (by simp)
 .refine((m.wT (b:=B0+1) (by omega) 0 _).wT (b:=B0+3) (by omega) 2 _).low (bP _) (λk c=>?_);simp [Value.ownBlock] at c;exact c.symm
 .exact(n.wT (by omega) 0 _).wT (by omega) 2 _
theorem jq.whole {B:Nat} {a:SS} (h:jq W B0 B E a vR vr)
    (H:w2.ownsRow B 5 1 (.slice (some (aD g 0)) (a.rc.length+d.length) cap) (a.rc.length+d.length) (bs a.rc ++ bs d)) (p:W.grownBy w2 vr.ownBlock) (ic:vr.ownBlock=some g\/g=W.heap.size) (R:B<=W.heap.size)
    (aY:w2.ownsRow B 36 1 vR a.rs.length vs) (IY:∀i (t:i<a.rs.length),∃g c,vs[i]? =some (.slice (some (aD g 0)) (a.rs[i]).length c)/\ay w2 5 g c (bs a.rs[i])/\B<=g)
    (Bu:w3.ownsRow B 36 1 (.slice (some (aD g' 0)) (a.rs.length+1) QU) (a.rs.length+1) (vs ++ [.slice (some (aD g 0)) (a.rc.length+d.length) cap])) (wI:0<d.length) (o:Obj) (E7:(w2.alloc o).grownBy w3 vR.ownBlock) (P:Nat) (Q:Int) (F:Q=(P:Int)):
  jq ((((w3.setCell ⟨B0,0,none⟩ (.slice (some ⟨g',0,none⟩) (a.rs.length+1) QU)).setCell ⟨B0+1,0,none⟩ (.slice none 0 0)).setCell ⟨B0+2,0,none⟩ (.int .i64 Q)).setCell ⟨B0+3,2,none⟩ (.int .i64 0)) B0 B E {a with rs:=a.rs ++ [a.rc ++ d],rc:= [],hd:=P,j:=0} (.slice (some (aD g' 0)) (a.rs.length+1) QU) (.slice none 0 0):=by
 subst F;have ox:=h.lo;obtain⟨w,z,A,C,O,D⟩:=h.grow H p ic;have dG:∀k,k<B->vR.ownBlock≠some k:=λk m e=>by have:=jn aY e;omega
 have l:∀k q,k<B->w2.heap[k]? =some q->w3.heap[k]? =some q:=λk q m f=>(E7.block k (by have:=aw f;simp;omega) (λe=>dG k m e.symm)).trans ((Below.heap_alloc _ _ _ (aw f)).trans f);have n:B<=g:=by
  rcases ic with ic|ic
  .exact jn h.rc ic
  .omega
 have mI:ay w2 5 g cap (bs (a.rc ++ d)):=by
  obtain⟨N,e,_,_,I⟩:=D.row (by simp;omega);cases e;exact I
 have f:a.rc.length+d.length=(a.rc ++ d).length:=by simp
 rw [f] at Bu;have acJ:=Cv (W:=w2.alloc o) (W':=w3) (r:=a.rc ++ d) (em aY (λg p=>by
   obtain⟨cur,G⟩:=bJ aY p;exact Below.heap_alloc _ _ _ (aw G))) (λi t=>by
   obtain⟨x,y,u,s,v⟩:=IY i t;exact⟨x,y,u,s.agree (Below.heap_alloc _ _ _ s.lt),v⟩) (mI.agree (Below.heap_alloc _ _ _ mI.lt)) n Bu E7
 have J:=l _ _ (by omega) w;have K:=l _ _ (by omega) z;have L:=l _ _ (by omega) A;have M:=l _ _ (by omega) (C.trans h.d);refine⟨?_,?_,?_,?_,?_,Own.nil _ _,ox⟩
 .exact bU (bU (bU ((heap_setCell_same _ _ 0 _ _ _ J).trans (by simp)) (by omega)) (by omega)) (by omega)
 .exact bU (bU ((heap_setCell_same _ _ 0 _ _ _ (bU K (by omega))).trans (by simp)) (by omega)) (by omega)
 .exact bU ((heap_setCell_same _ _ 0 _ _ _ (bU (bU L (by omega)) (by omega))).trans (by simp)) (by omega)
 .exact(heap_setCell_same _ _ 2 _ _ _ (bU (bU (bU M (by omega)) (by omega)) (by omega))).trans (by simp)
 .exact((((acJ.wT (b:=B0) (by omega) 0 _).wT (b:=B0+1) (by omega) 0 _).wT (b:=B0+2) (by omega) 0 _).wT (b:=B0+3) (by omega) 2 _).low (bP _) (λk m=>by simp [Value.ownBlock] at m)
section
def xD (ops:Array Oper):Bool:=ops.all λo=>match o.op with| .defer _=>false|_=>true
theorem DT {a:Array Oper} (h:xD a=true) {o:Oper} (b:a[i]? =some o):∀c,o.op≠ .defer c:=by
 intro c e;have:=Array.all_eq_true_iff_forall_mem.1 h o (Array.mem_of_getElem? b);rw [e] at this;cases this
section
variable {P:Program} {ops:Array Oper} {Q:Exit->Act->World->Prop} {l n:Nat}
theorem No {row:String} {args:Array Value} {R:Value->World->Prop} (h:Rows P row args w R):RowsIn (Fence.wide.inRound l) n P row args w R:=λc cs _=>by
 obtain⟨v,w',a,b⟩:=h c cs;exact⟨v,w',a,stepsIn_wide.2 b⟩
theorem ze {o:Oper} {a:Act} {K:Act->World->Prop} (IR:∀c,o.op≠ .defer c) (h:o.wp P a w K Q):o.wpIn (Fence.wide.inRound l) n P a w K Q:=by
 unfold Oper.wpIn;refine⟨λ_ _=>trivial,?_⟩;rw [Oper.semAt_eq _ _ _ IR];unfold Oper.wp at h;generalize (execOp a.eval o).run P w=r at*;cases r with
 |ok x w'=>
  cases x <;> simp only [Oper.upon,Oper.uponIn] at h⊢<;>
   first
    |exact h
    |exact⟨λh=>(by cases h),CallsIn.inRound l (callsIn_wide.2 h)⟩
    |exact⟨λh=>(by cases h),No h⟩
    |exact h.elim
 |halt x w'=>cases x <;> simp only [Oper.upon,Oper.uponIn] at h⊢<;> exact h
theorem Np {a:Act} {K:Act->World->Prop} (hd:xD ops=true) (d:¬LetsOut Q) (h:wpOp P ops Q i K a w):wpOpIn (Fence.wide.inRound l) n P ops Q i K a w:=by
 unfold wpOp at h;unfold wpOpIn;cases b:ops[i]? with
 |none=>simp only [b] at h;exact h
 |some o=>
  simp only [b] at h⊢;split
  .rename_i c;simp only [c,if_true] at h;rcases h with h|h
   .exact ze (DT hd b) h
   .exact absurd h.2 d
  .rename_i c;simp only [c] at h;exact⟨λ_ _=>trivial,h⟩
theorem zf {d:Region.Mode} (hd:xD ops=true) (c:¬LetsOut Q):∀(b:Nat) (QV:Array Bool) (a:Act) (w:World),wpAny P d ops Q b QV a w->wpAnyIn (Fence.wide.inRound l) n P d ops Q b QV a w
 |0,_,_,_,h=>h
 |b+1,_listed,_a,_w,h=>⟨h.1,λi e=>wpOpIn_mono (λa w h=>zf hd c b _ a w h) (Np hd c (h.2 i e))⟩
theorem nC {c:Nat} {a:Act} {K:Act->World->Prop} {S:World->Prop} (b:P.follows .mixedOrders=true) (hd:xD ops=true) (h:wpAnyH P .any ops (Exit.then K (λ_ _ _=>False)) S ops.size (Array.replicate ops.size false) a w.drew):
    (Code.region c ops true).wpIn (Fence.wide.inRound l) n P (Exit.then K Q) a w:=
 wpIn_mono (wpIn_region_any b (zf hd (λ⟨_,_,h⟩=>h) _ _ _ _ (wpAny_of_held _ _ _ _ h))) (λe a w h=>by cases e <;> first|exact h|exact h.elim)
theorem fQ {o:Oper} {a:Act} {K:Act->World->Prop} (s x:Operand) (t:TypeId) (b:o.op= .call {callee:= .builtin .append,args:= #[s,x],argTypes:= #[t,t]}) (v u r:Value) (d:a.eval s=v) (e:a.eval x=u)
    (c:(Builtin.append_ #[t,t] o.type #[v,u]).run P w= .ok r w') (h:K (a.put o.dst r) w'):o.wp P a w K Q:=by
 unfold Oper.wp execOp;simp only [b,resolve,invoke,builtin,Sem.run_bind,Sem.run_pure,Result.andThen_ok,List.map_toArray,List.map_cons,List.map_nil,d,e,c];exact h
theorem rn {o:Oper} {rest:List Oper} {a:Act} (f:o.guard=none) (s x:Operand) (t:TypeId) (b:o.op= .call {callee:= .builtin .append,args:= #[s,x],argTypes:= #[t,t]}) (v u r:Value) (i:a.eval s=v) (j:a.eval x=u)
    (g:(Builtin.append_ #[t,t] o.type #[v,u]).run P w= .ok r w') (h:wpListIn (Fence.wide.inRound l) n P ops Q rest (a.put o.dst r) w'):wpListIn (Fence.wide.inRound l) n P ops Q (o :: rest) a w:=
 wpListIn_plain f λ_ d=>ze (by rw [b];intro c e;cases e) (fQ s x t b v u r i j g (d _ _ h))
end
end
section
open Go.RowKit Go.Shelf
attribute [local go_sem] Oper.semAt_some
theorem Nq {B:Nat} {R:Nat->PC} (h:gS w B g n n R):∃(A:Nat->Option Addr) (C:Nat->Nat),∀i,i<n->w.rangeAt g (i*5) (eI ((R i).e:Int) ((R i).p:Int) ((R i).i:Int) ((R i).c:Int) (A i) (R i).d.length (C i)).toList/\Src w (A i) (R i).d.length (R i).d:=by
 have b:=λi (a:i<n)=>(h.2 i a).range;refine⟨λi=>if a:i<n then Classical.choose (b i a) else none,λi=>if a:i<n then Classical.choose (Classical.choose_spec (b i a)) else 0,λi a=>?_⟩;simp only [a,dite_true];have:=Classical.choose_spec (Classical.choose_spec (b i a));exact⟨this.1,this.2.1⟩
theorem Nr (w:World) (a b c d f g:Obj):((((((w.alloc a).alloc b).alloc c).alloc d).alloc f).alloc g).heap[w.heap.size]? =some a/\((((((w.alloc a).alloc b).alloc c).alloc d).alloc f).alloc g).heap[w.heap.size+1]? =some b/\((((((w.alloc a).alloc b).alloc c).alloc d).alloc f).alloc g).heap[w.heap.size+2]? =some c/\
    ((((((w.alloc a).alloc b).alloc c).alloc d).alloc f).alloc g).heap[w.heap.size+3]? =some d/\((((((w.alloc a).alloc b).alloc c).alloc d).alloc f).alloc g).heap[w.heap.size+1+1+1+1]? =some f/\((((((w.alloc a).alloc b).alloc c).alloc d).alloc f).alloc g).heap[w.heap.size+1+1+1+1+1]? =some g:=by
 have e:((((((w.alloc a).alloc b).alloc c).alloc d).alloc f).alloc g).heap=(((((w.heap.push a).push b).push c).push d).push f).push g:=rfl;rw [e];refine⟨?_,?_,?_,?_,?_,?_⟩
 .rw [Array.getElem?_push,aA (by simp;omega),Array.getElem?_push,aA (by simp;omega),Array.getElem?_push,aA (by simp;omega),Array.getElem?_push,aA (by simp;omega),Array.getElem?_push,aA (by simp),Array.getElem?_push,aE rfl]
 .rw [Array.getElem?_push,aA (by simp),Array.getElem?_push,aA (by simp),Array.getElem?_push,aA (by simp),Array.getElem?_push,aA (by simp),Array.getElem?_push,aE (by simp)]
 .rw [Array.getElem?_push,aA (by simp),Array.getElem?_push,aA (by simp),Array.getElem?_push,aA (by simp),Array.getElem?_push,aE (by simp)]
 .rw [Array.getElem?_push,aA (by simp),Array.getElem?_push,aA (by simp),Array.getElem?_push,aE (by simp)]
 .rw [Array.getElem?_push,aA (by simp),Array.getElem?_push,aE (by simp)]
 .rw [Array.getElem?_push,aE (by simp)]
theorem za.split {xs:List (Fin n)} {x:Fin n} (h:za (xs ++ [x]) (k+1)):xs.map Fin.val=List.range k/\x.1=k:=by
 unfold za at h;rw [List.map_append,List.range_succ] at h;obtain⟨a,b⟩:=List.append_inj' h rfl;exact⟨a,by simpa using b⟩
def L7 (w w':World) (R:Nat->PC) (E T n:Nat) (e:Ending):Prop:=∃v h rs,e= .returned (.tuple #[v, .int .i64 ((h:Nat):Int)])/\dQ w' w.heap.size v rs (λ_=>False)/\dC (Rp R n) E T rs h/\(∀c d,¬Rec (Rp R n) E h c d)/\Below w.heap.size w w'
theorem Gg {B D:Nat} {R:Nat->PC} {f:List Deferred} (h:dQ W B v rs X) (j:w.heap.size<=B) (a:Below w.heap.size w W) (g:W.heap[D]? =some (.deferred (some f))) (l:w.heap.size<=D) (i:dC (Rp R n) E T rs hd/\∀c d,¬Rec (Rp R n) E hd c d):
  L7 w (W.drew.putObj D (.deferred none)) R E T n (.returned (.tuple #[v, .int .i64 ((hd:Nat):Int)])):=by
 have k:ko W (W.drew.putObj D (.deferred none)):=λb cur t m a=>by
  have dG:b≠D:=λe=>by rw [e,g] at a;cases a
  exact(World.putObj_heap_other dG).trans a
 refine⟨v,hd,rs,rfl,(h.cells k).low j (λ_ h=>h.elim),i.1,i.2,?_⟩;exact(ai a).trans (belowK_b (w:=w) (bP _) W.drew D (.deferred (some f)) (.deferred none) l g rfl rfl)
theorem qK {B:Nat} {e:List Int} (az:Own W B v e) (c:Nat) (f:Src W a n d) (hd:0<n) (k:e.length+n<=1000000) (r:B<=W.heap.size):
  ∃g cap w',(Builtin.append_ #[36,36] 36 #[v, .slice a n c]).run prog W= .ok (.slice (some ⟨g,0,none⟩) (e.length+d.length) cap) w'/\w'.ownsRow B 5 1 (.slice (some ⟨g,0,none⟩) (e.length+d.length) cap) (e.length+d.length) (bs e ++ bs d)/\W.grownBy w' v.ownBlock/\(v.ownBlock=some g\/g=W.heap.size):=by
 obtain⟨w,s,gv,dr,ec⟩:=info_parts fW;obtain⟨b,o,rfl⟩:=cT f hd;have i:=f.1;obtain⟨g,cap,w',l,m,p,q,_⟩:=run_append_lies (P:=prog) W 36 36 B 5 w (.int .u8 0) 1 1 underlying36 s gv dr ec rfl (by decide) v e.length (bs e) az ⟨b,o,none⟩ n c (bs d) (by simp [bs,i]) (λj u t=>by
   obtain⟨YQ,rfl⟩:=fq t;exact f.2.2 _ rfl j (by omega)) (cB d) hd (by unfold maxLen;omega) (by omega) r W.heap.size rfl
 rw [i];exact⟨g,cap,w',l,m,p,q⟩
theorem L8 {B:Nat} (aY:W.ownsRow B 36 1 v k vs) (x:Value) (i:x.oneCell'=true) (m:k<=1000000) (l:B<=W.heap.size):
  ∃g cap w',(Builtin.append_ #[62,62] 62 #[v, .slice (some ⟨W.heap.size,0,none⟩) 1 1]).run prog (W.alloc (.cells #[x] 36))= .ok (.slice (some ⟨g,0,none⟩) (k+1) cap) w'/\w'.ownsRow B 36 1 (.slice (some ⟨g,0,none⟩) (k+1) cap) (k+1) (vs ++ [x])/\(W.alloc (.cells #[x] 36)).grownBy w' v.ownBlock:=by
 obtain⟨j,f,gv,dr,ec⟩:=info_parts td;obtain⟨g,cap,w',a,b,c,_,_⟩:=run_append_lies (P:=prog) (W.alloc (.cells #[x] 36)) 62 62 B 36 j (.slice none 0 0) 1 24 underlying62 f gv dr ec rfl (by decide) v k vs (em aY (λg e=>by
   obtain⟨cur,d⟩:=bJ aY e;exact Below.heap_alloc _ _ _ (aw d))) ⟨W.heap.size,0,none⟩ 1 1 [x] rfl (World.news_of_block (cs:= #[x]) (t:=36) (fr:=(0,0)) (heap_alloc_new W _)) (by simpa using i) (by omega) (by unfold maxLen;omega) (by omega) (by simp;omega) _ rfl
 exact⟨g,cap,w',a,b,c⟩
def Xu (R:Nat->PC) (E T n x:Nat) (st:SS) (y Bx:Nat) (a:Option Addr) (k:Nat) (vR vr:Value) (w W:World) (e:Ending) (W2:World):Prop:=
 ∃(b:Bool) (c:Nat),e= .returned (.bool b)/\b=st.tL R E T n x/\c=st.due R T n x/\jq W2 w.heap.size (w.heap.size+6) E {st with ps:=T+x,j:=st.j,c:=c} vR vr/\ir w.heap.size w W W2/\W2.heap[Bx]? =some (.cells (eI ((R y).e:Int) ((R y).p:Int) ((R y).i:Int) ((R y).c:Int) a (R y).d.length k) 230 (0,0))
theorem Cw {F:Fence} {P:Program} {c:Code} {K:Act->World->Prop} {Q:Exit->Act->World->Prop} {a:Act} (h:c.wpIn F n P (Exit.then K (λ_ _ _=>False)) a w):c.wpIn F n P (Exit.then K Q) a w:=
 wpIn_mono h (λe a w h=>by cases e <;> first|exact h|exact h.elim)
theorem zg {row:Option Nat} (h:Below w.heap.size w W) (a:W.grownBy W' row) (b:∀r,row=some r->w.heap.size<=r):Below w.heap.size w W':=h.grown a h.size (λk e=>b k e)
theorem pL {row:Option Nat} {t:TypeId} (d:W.grownBy W' row) (f:∀r,row=some r->∃cur,W.heap[r]? =some (.cells cur t (0,0))) {b:Nat} {a:Nat×Nat} (h:W.heap[b]? =some (.cells cur' t' a)) (dG:t≠t'):W'.heap[b]? =some (.cells cur' t' a):=
   (d.block b (aw h) (λe=>by
  obtain⟨cur,c⟩:=f b e.symm;exact tN c h dG)).trans h
set_option maxRecDepth 100000 in
theorem QW (g n E T:Nat) (R:Nat->PC) (w:World) (B:Nat) (hr:gS w B g n n R) (iQ:1<=n) (hn:n<=256) (hT:T<=1073741824) (_hE:E<=1073741824) (Ub:∀i,(R i).d.length<=492) (Gh:∀i,(R i).c<=65536):
  Calls prog 155 #[.slice (some ⟨g,0,none⟩) n n, .int .i64 (E:Int), .int .i64 (T:Int)] w λe w'=>L7 w w' R E T n e:=by
 refine(callsIn_wide (n:=6)).1 ?_;refine callsIn_of_wp_marks func155 rfl trivial ?_ rfl;simp only [ntmps155,List.size_toArray,List.length_cons,List.length_nil,Nat.reduceAdd,Nat.reduceSub,Array.replicate_succ,Array.replicate_zero,List.push_toArray,List.append_toArray,List.nil_append,List.cons_append]
 gi_wp2
 refine(wpIn_wide (n:=6)).2 (wp_scope_straight ((wpIn_wide (n:=6)).1 ?_))
 gi_wp2
 refine wpIn_label ?_
 gi_wp2_with (refine⟨trivial,?_⟩;gi_at_call 194;refine(callsIn_wide.2 (TQ g n T _)).mono ?_;rintro e w' ⟨rfl,rfl⟩)
 obtain⟨U,JX⟩:∃U,((((((w.alloc (.cells #[.slice none 0 0] 62)).alloc (.cells #[.slice none 0 0] 36)).alloc (.cells #[.int .i64 (T:Int)] 3)).alloc (.cells #[.int .i64 (E:Int), .int .i64 0, .int .i64 0, .int .i64 0] 228)).alloc (.cells #[.slice (some ⟨g,0,none⟩) n n] 186)).alloc (.cells #[.int .i64 (T:Int)] 3))=U:=⟨_,rfl⟩;rw [JX];have ef:U.heap.size=w.heap.size+6:=by rw [<-JX];simp
 have fo:Below w.heap.size w U:=by rw [<-JX];exact((((((bi _ w).alloc (bP _) _).alloc (by simp) _).alloc (by simp;omega) _).alloc (by simp;omega) _).alloc (by simp;omega) _).alloc (by simp;omega) _
 have lj:jq U w.heap.size (w.heap.size+6) E (SS.start T) (.slice none 0 0) (.slice none 0 0)/\U.heap[w.heap.size+1+1+1+1]? =some (.cells #[.slice (some ⟨g,0,none⟩) n n] 186 (0,0))/\U.heap[w.heap.size+1+1+1+1+1]? =some (.cells #[.int .i64 (T:Int)] 3 (0,0)):=by
  rw [<-JX];obtain⟨s1,s2,s3,s4,s5,s6⟩:=Nr w (.cells #[.slice none 0 0] 62) (.cells #[.slice none 0 0] 36) (.cells #[.int .i64 (T:Int)] 3) (.cells #[.int .i64 (E:Int), .int .i64 0, .int .i64 0, .int .i64 0] 228) (.cells #[.slice (some ⟨g,0,none⟩) n n] 186) (.cells #[.int .i64 (T:Int)] 3);exact⟨⟨s1,s2,s3,s4,dQ.nil _ _ _,Own.nil _ _,bP _⟩,s5,s6⟩
 obtain⟨A,C,hAC⟩:=Nq hr;clear JX;refine wpIn_rangeFunc_ownH rfl (by omega) (gf:=227) (lb:= #[.pointer (some ⟨w.heap.size+1+1+1+1,0,none⟩), .pointer (some ⟨w.heap.size+1+1+1+1+1,0,none⟩)]) rfl trivial (enters_of func227 (by kernel_rfl) rfl)
    (LA (6-1) (by omega) (w.heap.size+1+1+1+1) (w.heap.size+1+1+1+1+1) w.heap.size g n T R A C iQ hn hT U (by omega) lj.2.1 lj.2.2 ⟨hr.lt,λi O j v hv=>(fo.cell (p:=⟨g,i*5+j,none⟩) hr.lt).trans ((hAC i O).1 j v hv)⟩) Ge.t (Ge.b (by omega) (by omega) (by omega)) (bi _ _) (λ_=>rfl)
    (λu W=>∃a G z,srun R E T n (u.map Fin.val) (SS.start T)=some a/\jq W w.heap.size (w.heap.size+6) E a G z/\Below w.heap.size w W/\w.heap.size+6<=W.heap.size)
    (λc u W=>c= .exit 0/\∃QX x a ps c' G z,u=QX ++ [x]/\srun R E T n (QX.map Fin.val) (SS.start T)=some a/\a.tL R E T n x.1=false/\jq W w.heap.size (w.heap.size+6) E {a with ps:=ps,c:=c'} G z/\Below w.heap.size w W)
  ?hI ?hIx ⟨_,_,_,rfl,lj.1,fo,by omega⟩
    (λx a' W=>∃q,w.heap.size+6<=q/\W.heap[q]? =some (.cells (eI ((R ((T+x.1)%n)).e:Int) ((R ((T+x.1)%n)).p:Int) ((R ((T+x.1)%n)).i:Int) ((R ((T+x.1)%n)).c:Int) (A ((T+x.1)%n)) (R ((T+x.1)%n)).d.length (C ((T+x.1)%n))) 230 (0,0))/\a'={tmps:= #[Value.slice (some ⟨g,0,none⟩) n n, .int .i64 (E:Int), .int .i64 (T:Int),undef,undef,undef, .slice none 0 0, .int .i64 0, .pointer (some ⟨w.heap.size,0,none⟩), .pointer (some ⟨w.heap.size+1,0,none⟩), .pointer (some ⟨w.heap.size+1+1,0,none⟩), .pointer (some ⟨w.heap.size+1+1+1,0,none⟩), .int .i64 ((T:Int)+(x.1:Int)), .pointer (some ⟨q,0,none⟩), .int .i64 (T:Int), .int .i64 (E:Int), .agg #[.int .i64 (E:Int), .int .i64 0, .int .i64 0, .int .i64 0], .slice (some ⟨g,0,none⟩) n n, .int .i64 (T:Int), .func (.func 227) #[] #[.pointer (some ⟨w.heap.size+1+1+1+1,0,none⟩), .pointer (some ⟨w.heap.size+1+1+1+1+1,0,none⟩)], .int .i64 ((T:Int)+(x.1:Int)),kW ((R ((T+x.1)%n)).e:Int) ((R ((T+x.1)%n)).p:Int) ((R ((T+x.1)%n)).i:Int) ((R ((T+x.1)%n)).c:Int) (A ((T+x.1)%n)) (R ((T+x.1)%n)).d.length (C ((T+x.1)%n)),undef,undef,undef,undef,undef,undef,undef,undef,undef,undef,undef,undef,undef,undef,undef,undef,undef,undef,undef,undef,undef,undef,undef,undef,undef,undef,undef,undef,undef,undef,undef,undef,undef,undef,undef,undef,undef,undef],defers:= []}) ?hAx ?assign ?body ?done ?stop
 case hI=>
  rintro s X Y row ⟨a,G,z,H,m,I,J⟩ N aY;exact⟨a,G,z,H,m.cells (i6 N (λr e=>(aY r e).2)),zg I N (λr e=>by have:=(aY r e).1;omega),jQ J N.size⟩
 case hIx=>
  rintro c s X Y row ⟨L,QX,x,a,ps,c',G,z,h0,H,m,I,J⟩ N aY;exact⟨L,QX,x,a,ps,c',G,z,h0,H,m,I.cells (i6 N (λr e=>(aY r e).2)),zg J N (λr e=>by have:=(aY r e).1;omega)⟩
 case hAx=>
  rintro x a' s X Y row ⟨q,H,m,I⟩ N aY;exact⟨q,H,i6 N (λr e=>(aY r e).2) _ _ _ _ m,I⟩
 case assign=>
  rintro l u x W K ⟨a,G,z,H,m,I,J⟩ f;simp only [Vh]
  gi_wp2
  exact f _ _ ((KeepsOthers.alloc _ _).from _) ⟨(bi _ W).alloc (by omega) _,Below.heap_alloc _ _ _ (by omega),Below.heap_alloc _ _ _ (by omega)⟩ ⟨a,G,z,H,m.cells (el (aI _ _)),I.trans ((aI _ _).mono (by omega)),by simp;omega⟩ ⟨W.heap.size,by omega,heap_alloc_new _ _,rfl⟩
 case body=>
  rintro l u x a' W hl ⟨rr,JY⟩ ⟨a,G,z,H,m,I,J⟩ ⟨q,hBx,Ns,rfl⟩ bm;have km:=yZ R E T n Ub Gh u.length (u.map Fin.val) a (by simp) H;have hx:=x.2;have hyn:(T+x.1)%n<n:=Nat.mod_lt _ iQ;obtain⟨y,hy⟩:=bQ ((T+x.1)%n);have IZ:a.tL R E T n x.1=Gc (R y) E (T+x.1) a.j (a.due R T n x.1):=by unfold SS.tL;rw [<-hy]
  have Vj:a.due R T n x.1=if a.j=0 then (R y).c else a.c:=by unfold SS.due;rw [<-hy]
  have Zc:a.next R T n x.1=if (R y).i+1=(R y).c then ⟨a.rs ++ [a.rc ++ (R y).d], [],T+x.1+1,T+x.1,0,a.due R T n x.1⟩ else ⟨a.rs,a.rc ++ (R y).d,a.hd,T+x.1,a.j+1,a.due R T n x.1⟩:=by unfold SS.next;rw [<-hy]
  rw [<-hy] at hyn Ns;simp only [<-hy];have HNx:=yh Zc;have acK:Yh (∀c,c=a.due R T n x.1->a.tL R E T n x.1=Gc (R y) E (T+x.1) a.j c):=λc L=>by rw [L];exact IZ
  have uY:((T+x.1:Nat):Int)=(T:Int)+(x.1:Int):=by omega
  have d1:W.cell? ⟨w.heap.size+1+1+1,1,none⟩=some (.int .i64 (a.ps:Int)):=bD m.d;have d2:W.cell? ⟨w.heap.size+1+1+1,2,none⟩=some (.int .i64 (a.j:Int)):=bH m.d;have d0:W.cell? ⟨w.heap.size+1+1+1,0,none⟩=some (.int .i64 (E:Int)):=aL m.d;have d3:W.cell? ⟨w.heap.size+1+1+1,3,none⟩=some (.int .i64 (a.c:Int)):=fI m.d;have df:∀j,W.frozen? ⟨w.heap.size+1+1+1,j,none⟩=false:=λj=>ae m.d j;have p0:W.cell? ⟨q,0,none⟩=some (.int .i64 ((R y).e:Int)):=aL Ns;have p1:W.cell? ⟨q,1,none⟩=some (.int .i64 ((R y).p:Int)):=bD Ns;have p2:W.cell? ⟨q,2,none⟩=some (.int .i64 ((R y).i:Int)):=bH Ns;have p3:W.cell? ⟨q,3,none⟩=some (.int .i64 ((R y).c:Int)):=fI Ns;have p4:W.cell? ⟨q,4,none⟩=some (.slice (A y) (R y).d.length (C y)):=gz Ns;have dG:q≠w.heap.size+1+1+1:=by omega
  have HS:=yh ef;by_cases hj:a.j=0
  case' pos=>
   have d2':W.cell? ⟨w.heap.size+1+1+1,2,none⟩=some (.int .i64 0):=(by rw [d2,hj];rfl);clear d2;have QY:a.due R T n x.1=(R y).c:=(by rw [Vj,aE hj]);have bK:jq ((W.setCell ⟨w.heap.size+1+1+1,1,none⟩ (.int .i64 ((T:Int)+(x.1:Int)))).setCell ⟨w.heap.size+1+1+1,3,none⟩ (.int .i64 ((R y).c:Int))) w.heap.size (w.heap.size+6) E {a with ps:=T+x.1,j:=a.j,c:=(R y).c} G z:=m.set ((aJ (F:=λk=>k=w.heap.size+3) W rfl 1 _).trans (aJ (F:=λk=>k=w.heap.size+3) _ rfl 3 _) (λ_ h=> .inl h)) (T+x.1) a.j (R y).c ((heap_setCell_same _ _ 3 _ _ _ (heap_setCell_same _ _ 1 _ _ _ m.d)).trans (by simp [hj]));have eH:ir w.heap.size w W ((W.setCell ⟨w.heap.size+1+1+1,1,none⟩ (.int .i64 ((T:Int)+(x.1:Int)))).setCell ⟨w.heap.size+1+1+1,3,none⟩ (.int .i64 ((R y).c:Int))):=((ir.start I).set rfl (by omega) (by omega) 1 _).set rfl (by omega) (by omega) 3 _;have oY:(((W.setCell ⟨w.heap.size+1+1+1,1,none⟩ (.int .i64 ((T:Int)+(x.1:Int)))).setCell ⟨w.heap.size+1+1+1,3,none⟩ (.int .i64 ((R y).c:Int)))).heap[q]? =some (.cells (eI ((R y).e:Int) ((R y).p:Int) ((R y).i:Int) ((R y).c:Int) (A y) (R y).d.length (C y)) 230 (0,0)):=bU (bU Ns (by omega)) (by omega);rw [QY] at IZ;have Xv:=CallsIn.inRound l (callsIn_wide (n:=3).2 ((QT (R y) (A y) (C y) E (T+x.1) a.j (R y).c ((W.setCell ⟨w.heap.size+1+1+1,1,none⟩ (.int .i64 ((T:Int)+(x.1:Int)))).setCell ⟨w.heap.size+1+1+1,3,none⟩ (.int .i64 ((R y).c:Int)))).mono (λe M h=>show Xu R E T n x.1 a y q (A y) (C y) G z w W e M from ⟨_,_,h.1,IZ.symm,QY.symm,bK.cells (el h.2),eH.below rfl J h.2,(h.2.block _ (aw oY)).trans oY⟩)));rw [uY] at Xv;rw [show (a.j:Int)=0 by omega] at Xv;clear m I Ns bK eH oY IZ Vj QY hy hj JY Zc ef lj fo uY hr
   gi_wp2_with fail
   refine⟨trivial,?_⟩;refine Xv.mono ?_;rintro e M ⟨b,c,rfl,IZ,QY,eM,aX,uK⟩;clear Xv
  case' neg=>
   have AX:((a.j:Int) == 0)=false:=(by rw [eG];omega);have QY:a.due R T n x.1=a.c:=(by rw [Vj,aA hj]);have bK:jq (W.setCell ⟨w.heap.size+1+1+1,1,none⟩ (.int .i64 ((T:Int)+(x.1:Int)))) w.heap.size (w.heap.size+6) E {a with ps:=T+x.1,j:=a.j,c:=a.c} G z:=m.set (aJ (F:=λk=>k=w.heap.size+3) W rfl 1 _) (T+x.1) a.j a.c ((heap_setCell_same _ _ 1 _ _ _ m.d).trans (by simp));have eH:ir w.heap.size w W (W.setCell ⟨w.heap.size+1+1+1,1,none⟩ (.int .i64 ((T:Int)+(x.1:Int)))):=(ir.start I).set rfl (by omega) (by omega) 1 _;have oY:((W.setCell ⟨w.heap.size+1+1+1,1,none⟩ (.int .i64 ((T:Int)+(x.1:Int))))).heap[q]? =some (.cells (eI ((R y).e:Int) ((R y).p:Int) ((R y).i:Int) ((R y).c:Int) (A y) (R y).d.length (C y)) 230 (0,0)):=bU Ns (by omega);rw [QY] at IZ;have Xv:=CallsIn.inRound l (callsIn_wide (n:=3).2 ((QT (R y) (A y) (C y) E (T+x.1) a.j a.c (W.setCell ⟨w.heap.size+1+1+1,1,none⟩ (.int .i64 ((T:Int)+(x.1:Int))))).mono (λe M h=>show Xu R E T n x.1 a y q (A y) (C y) G z w W e M from ⟨_,_,h.1,IZ.symm,QY.symm,bK.cells (el h.2),eH.below rfl J h.2,(h.2.block _ (aw oY)).trans oY⟩)));rw [uY] at Xv;clear m I Ns bK eH oY IZ Vj QY hy hj JY Zc ef lj fo uY hr
   gi_wp2_with fail
   refine⟨trivial,?_⟩;refine Xv.mono ?_;rintro e M ⟨b,c,rfl,IZ,QY,eM,aX,uK⟩;clear Xv
  all_goals
   obtain⟨dE,gQ,P,HGo,HDc⟩:=UE eM aX uK IZ QY;have q0:M.cell? ⟨q,0,none⟩=some (.int .i64 ((R y).e:Int)):=aL uK;have q1:M.cell? ⟨q,1,none⟩=some (.int .i64 ((R y).p:Int)):=bD uK;have q2:M.cell? ⟨q,2,none⟩=some (.int .i64 ((R y).i:Int)):=bH uK;have q3:M.cell? ⟨q,3,none⟩=some (.int .i64 ((R y).c:Int)):=fI uK;clear eM aX uK IZ QY d0 d1 d3 df p0 p1 p2 p3 p4;cases b
   .gi_wp2
    exact⟨HS.o▸gQ.o.k,rfl,u,x,a,T+x.1,c,G,z,rfl,H,HGo.o.symm,dE.o,gQ.o.b⟩
   .have hq:=DR.1 (HGo.o.trans (acK.o c HDc.o)).symm;have wI:=hq.1.2.2.2.2.1;have sX:=Ub y;have Fr:=Gh y;have E8:=CallsIn.inRound l (callsIn_wide (n:=3).2 (Gd (R y).e (R y).p (R y).i (R y).c M (by omega)));have fZ:=Ct R E T n _ _ _ x.1 H HGo.o.symm;rw [HNx.o,<-HDc.o,show u.map Fin.val ++ [x.1]=(u ++ [x]).map Fin.val by simp] at fZ;have Vk:=yh fZ;clear fZ hq;by_cases O:(R y).i+1=(R y).c
    .rw [aE O] at Vk;rw [show decide ((R y).i+1=(R y).c)=true by rw [decide_eq_true_eq];exact O] at E8;clear O
     gi_wp2_with fail
     refine⟨trivial,?_⟩;refine E8.mono ?_;rintro e Q ⟨rfl,bz⟩;have aV:=gQ.o.below rfl J bz;have kO:=aV.k.size;have wV:=(dE.o.cells (el bz)).cells (el (ai (bi Q.heap.size Q)));have Vl:=aV.below rfl J (ai (bi Q.heap.size Q));obtain⟨W4,su⟩:=bQ Q.drew;have QZ:W4.heap[q]? =Q.heap[q]? :=(by rw [su];rfl);rw [((bz.block _ (aw P.o)).trans P.o)] at QZ;rw [<-su] at wV Vl;have acL:w.heap.size+6<=W4.heap.size:=(by rw [su];show _<=Q.heap.size;omega);obtain⟨g4,DU,Z,vX,Fc,Gi,DV⟩:=qK wV.rc (C y) ((hAC y hyn).2.later Vl.b) wI (by show a.rc.length+_<=_;omega) acL;have tO:=wV.grow Fc Gi DV;have vS:=Gi.size;have dV:=Vl.grown rfl J Gi (λr e=>by
      obtain⟨cur,L⟩:=bJ wV.rc e;exact⟨jn wV.rc e,cur,_,L⟩)
     have Vm:=pL Gi (λr e=>bJ wV.rc e) QZ (by decide);obtain⟨vs,aY,IY⟩:=tO.2.2.2.2.1;have ah7:a.rs.length<=1000000:=(by omega);obtain⟨g5,Gj,w5,nD,FR,Uc⟩:=L8 aY (.slice (some ⟨g4,0,none⟩) (a.rc.length+(R y).d.length) DU) rfl ah7 (by omega);obtain⟨W6,Fe⟩:=bQ (Z.alloc (.cells #[.slice (some ⟨g4,0,none⟩) (a.rc.length+(R y).d.length) DU] 36));have ji:ir w.heap.size w W W6:=dV.below rfl J (by rw [Fe];exact aI _ _);have JZ:ko Z W6:=(by rw [Fe];exact el (aI _ _));have L9:=JZ _ _ _ _ Vm;have vY:=em (W':=W6) aY (λg N=>by
      obtain⟨cur,L⟩:=bJ aY N;rw [JZ _ _ _ _ L,L])
     rw [<-Fe] at nD;have Vn:W6.grownBy w5 G.ownBlock:=(by rw [Fe];exact Uc);have gy:=ji.grown rfl J Vn (λr e=>by
      obtain⟨cur,L⟩:=bJ vY e;exact⟨jn vY e,cur,_,L⟩)
     have hp7:=pL Vn (λr e=>bJ vY e) L9 (by decide);have Bv:∀k cur t fz,k<w.heap.size+6->Z.heap[k]? =some (Obj.cells cur t fz)->w5.heap[k]? =some (Obj.cells cur t fz):=λk cur t fz hk hl=>(Vn.block k (aw (JZ _ _ _ _ hl)) (λe=>by have:=jn vY e.symm;omega)).trans (JZ _ _ _ _ hl);have Fd:=wV.whole Fc Gi DV acL aY (λi O=>by
      obtain⟨x1,x2,x3,x4,x5,_⟩:=IY i O;exact⟨x1,x2,x3,x4,x5⟩) FR wI _ Uc (T+x.1+1) ((T:Int)+(x.1:Int)+1) (by omega)
     have jv:=((((gy.set rfl (b:=w.heap.size) (by omega) (by omega) 0 (.slice (some ⟨g5,0,none⟩) (a.rs.length+1) Gj)).set rfl (b:=w.heap.size+1) (by omega) (by omega) 0 (.slice none 0 0)).set rfl (b:=w.heap.size+1+1) (by omega) (by omega) 0 (.int .i64 ((T:Int)+(x.1:Int)+1))).set rfl (b:=w.heap.size+1+1+1) (by omega) (by omega) 2 (.int .i64 0));have gV:Yh (∀W':World,W'.heap[w.heap.size+1]? =some (.cells #[z] 36 (0,0))->W'.heap[q]? =some (.cells (eI ((R y).e:Int) ((R y).p:Int) ((R y).i:Int) ((R y).c:Int) (A y) (R y).d.length (C y)) 230 (0,0))->(W'.cell? ⟨w.heap.size+1,0,none⟩=some z/\W'.cell? ⟨q,4,none⟩=some (.slice (A y) (R y).d.length (C y)))):=λW' H m=>⟨aL H,gz m⟩;obtain⟨S4,S5,S6⟩:=jS (gV.o W4 wV.c QZ) (gV.o Z tO.2.1 Vm) (gV.o W6 (JZ _ _ _ _ tO.2.1) L9);have S7:=yh (gV.o w5 (Bv _ _ _ _ (by omega) tO.2.1) hp7);have S8:=yh (gV.o (w5.setCell ⟨w.heap.size,0,none⟩ (.slice (some ⟨g5,0,none⟩) (a.rs.length+1) Gj)) (bU (Bv _ _ _ _ (by omega) tO.2.1) (by omega)) (bU hp7 (by omega)));have b4:=wV.r.cell;have b5:=tO.1.cell;have b6:W6.cell? ⟨w.heap.size,0,none⟩=some G:=aL (JZ _ _ _ _ tO.1);have b7:w5.cell? ⟨w.heap.size,0,none⟩=some G:=aL (Bv _ _ _ _ (by omega) tO.1);have f7:=ae (Bv _ _ _ _ (by omega) tO.1) 0;have cf7:=ae (Bv _ _ _ _ (by omega) tO.2.1) 0;have d7:w5.cell? ⟨w.heap.size+1+1,0,none⟩=some (.int .i64 (a.hd:Int)):=aL (Bv _ _ _ _ (by omega) tO.2.2.1);have df7:w5.frozen? ⟨w.heap.size+1+1,0,none⟩=false:=ae (Bv _ _ _ _ (by omega) tO.2.2.1) 0;have e7:w5.cell? ⟨w.heap.size+1+1+1,2,none⟩=some (.int .i64 (a.j:Int)):=bH (Bv _ _ _ _ (by omega) (tO.2.2.2.1.trans wV.d));have ef7:w5.frozen? ⟨w.heap.size+1+1+1,2,none⟩=false:=ae (Bv _ _ _ _ (by omega) (tO.2.2.2.1.trans wV.d)) 2;have Zb:prog.follows .mixedOrders=true:=(by kernel_rfl);obtain⟨HW,Pd,HZ8,Vo,HR5,HW6,IW⟩:=abW Fd jv (jQ J jv.k.size) vX nD Fe su;clear bz aV Vl dV ji gy jv Fd tO Fc Gi DV E8 vX nD FR Uc Vn aY vY IY JZ Bv QZ Vm L9 hp7 wV su Fe gV
     gi_wp2_with fail
     refine nC (S:=λW'=>W'.cell? ⟨w.heap.size+1,0,none⟩=some z/\W'.cell? ⟨q,4,none⟩=some (.slice (A y) (R y).d.length (C y))) Zb (by kernel_rfl) ?_;rw [<-IW.o];refine wpAnyH_take (i:=1) (v:=z) rfl (by kernel_rfl) (by kernel_rfl) (by kernel_rfl) (λ_ _ _ h=>h) (Or.inl ⟨by rfl,?_⟩) S4.out ?_
     .rintro W1 ⟨y1,y2⟩;go_simp
     try simp only [Act.put,List.setIfInBounds_toArray]
     refine wpAnyH_take (i:=2) (v:= .pointer (some ⟨q,4,none⟩)) rfl (by kernel_rfl) (by kernel_rfl) (by kernel_rfl) (λ_ _ _ h=>h) (Or.inl ⟨by rfl,?_⟩) S4.out ?_
     .rintro W1 ⟨y1,y2⟩;go_simp
     try simp only [Act.put]
     refine wpAnyH_take (i:=3) (v:= .slice (A y) (R y).d.length (C y)) rfl (by kernel_rfl) (by kernel_rfl) (by kernel_rfl) (λ_ _ _ h=>h) (Or.inl ⟨by rfl,?_⟩) S4.out ?_
     .rintro W1 ⟨y1,y2⟩;go_simp
     try simp only [Act.put]
     refine wpAnyH_ready (rs:= [0,4]) (by kernel_rfl) (by simp) (AllReadyH.cons rfl (λK f=>?_) (AllReadyH.cons rfl (λK f=>?_) AllReadyH.nil))
     .skip
      go_simp;refine f.out _ _ S4.out (λ_=>?_);clear f K;try simp only [Act.put,List.setIfInBounds_toArray,List.set_cons_zero,List.set_cons_succ]
      refine wpAnyH_ready (rs:= [4]) (by kernel_rfl) (by simp) (AllReadyH.cons rfl (λK f=>?_) AllReadyH.nil);rw [aE (by rfl)];refine fQ _ _ 36 rfl _ _ _ rfl rfl Vo.o ?_;refine f.out _ _ S5.out (λ_=>?_);clear f K;try simp only [Act.put,List.setIfInBounds_toArray]
      refine wpAnyH_ready (rs:= [5]) (by kernel_rfl) (by simp) (AllReadyH.cons rfl (λK f=>?_) AllReadyH.nil);go_simp;rw [<-HW6.o];refine f.out _ _ S6.out (λ_=>?_);clear f K;try simp only [Act.put,List.setIfInBounds_toArray,List.set_cons_zero,List.set_cons_succ]
      refine wpAnyH_ready (rs:= [6]) (by kernel_rfl) (by simp) (AllReadyH.cons rfl (λK f=>?_) AllReadyH.nil);rw [aE (by rfl)];refine fQ _ _ 62 rfl _ _ _ rfl rfl HR5.o ?_;refine f.out _ _ S7.out (λ_=>?_);clear f K;try simp only [Act.put,List.setIfInBounds_toArray]
      refine wpAnyH_ready (rs:= [7]) (by kernel_rfl) (by simp) (AllReadyH.cons rfl (λK f=>?_) AllReadyH.nil);go_simp;refine f.out _ _ S8.out (λ_=>?_);clear f K;try simp only [Act.put,List.setIfInBounds_toArray,List.set_cons_zero,List.set_cons_succ]
      refine wpAnyH_done (by kernel_rfl) ?_ _
      (gi_wp2;exact⟨HS.o▸Pd.o.k,Pd.o.p,_,_,_,Vk.o,HW.o,Pd.o.b,HZ8.o⟩)
     .skip
      rw [aE (by rfl)];refine fQ _ _ 36 rfl _ _ _ rfl rfl Vo.o ?_;refine f.out _ _ S5.out (λ_=>?_);clear f K;try simp only [Act.put]
      refine wpAnyH_ready (rs:= [0,5]) (by kernel_rfl) (by simp) (AllReadyH.cons rfl (λK f=>?_) (AllReadyH.cons rfl (λK f=>?_) AllReadyH.nil))
      .skip
       go_simp;refine f.out _ _ S5.out (λ_=>?_);clear f K;try simp only [Act.put,List.setIfInBounds_toArray,List.set_cons_zero,List.set_cons_succ]
       refine wpAnyH_ready (rs:= [5]) (by kernel_rfl) (by simp) (AllReadyH.cons rfl (λK f=>?_) AllReadyH.nil);go_simp;rw [<-HW6.o];refine f.out _ _ S6.out (λ_=>?_);clear f K;try simp only [Act.put,List.setIfInBounds_toArray,List.set_cons_zero,List.set_cons_succ]
       refine wpAnyH_ready (rs:= [6]) (by kernel_rfl) (by simp) (AllReadyH.cons rfl (λK f=>?_) AllReadyH.nil);rw [aE (by rfl)];refine fQ _ _ 62 rfl _ _ _ rfl rfl HR5.o ?_;refine f.out _ _ S7.out (λ_=>?_);clear f K;try simp only [Act.put,List.setIfInBounds_toArray]
       refine wpAnyH_ready (rs:= [7]) (by kernel_rfl) (by simp) (AllReadyH.cons rfl (λK f=>?_) AllReadyH.nil);go_simp;refine f.out _ _ S8.out (λ_=>?_);clear f K;try simp only [Act.put,List.setIfInBounds_toArray,List.set_cons_zero,List.set_cons_succ]
       refine wpAnyH_done (by kernel_rfl) ?_ _
       (gi_wp2;exact⟨HS.o▸Pd.o.k,Pd.o.p,_,_,_,Vk.o,HW.o,Pd.o.b,HZ8.o⟩)
      .skip
       go_simp;rw [<-HW6.o];refine f.out _ _ S6.out (λ_=>?_);clear f K;try simp only [Act.put,List.setIfInBounds_toArray,List.set_cons_zero,List.set_cons_succ]
       refine wpAnyH_ready (rs:= [0]) (by kernel_rfl) (by simp) (AllReadyH.cons rfl (λK f=>?_) AllReadyH.nil);go_simp;refine f.out _ _ S6.out (λ_=>?_);clear f K;try simp only [Act.put,List.setIfInBounds_toArray,List.set_cons_zero,List.set_cons_succ]
       refine wpAnyH_ready (rs:= [6]) (by kernel_rfl) (by simp) (AllReadyH.cons rfl (λK f=>?_) AllReadyH.nil);rw [aE (by rfl)];refine fQ _ _ 62 rfl _ _ _ rfl rfl HR5.o ?_;refine f.out _ _ S7.out (λ_=>?_);clear f K;try simp only [Act.put,List.setIfInBounds_toArray]
       refine wpAnyH_ready (rs:= [7]) (by kernel_rfl) (by simp) (AllReadyH.cons rfl (λK f=>?_) AllReadyH.nil);go_simp;refine f.out _ _ S8.out (λ_=>?_);clear f K;try simp only [Act.put,List.setIfInBounds_toArray,List.set_cons_zero,List.set_cons_succ]
       refine wpAnyH_done (by kernel_rfl) ?_ _
       (gi_wp2;exact⟨HS.o▸Pd.o.k,Pd.o.p,_,_,_,Vk.o,HW.o,Pd.o.b,HZ8.o⟩)
    .rw [aA O] at Vk;rw [show decide ((R y).i+1=(R y).c)=false by rw [decide_eq_false_iff_not];exact O] at E8;clear O
     gi_wp2_with fail
     refine⟨trivial,?_⟩;refine E8.mono ?_;rintro e Q ⟨rfl,bz⟩;have jK:=dE.o.cells (el bz);have aV:=gQ.o.below rfl J bz;have r4:Q.cell? ⟨q,4,none⟩=some (.slice (A y) (R y).d.length (C y)):=gz ((bz.block _ (aw P.o)).trans P.o);have r9:=jK.c.cell;have kO:=aV.k.size;obtain⟨g4,DU,Z,bC,Fc,Gi,DV⟩:=qK jK.rc (C y) ((hAC y hyn).2.later aV.b) wI (by show a.rc.length+_<=_;omega) (by omega);have tO:=jK.grow Fc Gi DV;have s9:=tO.2.1.cell;have f9:=tO.2.1.frozen;have s11:Z.cell? ⟨w.heap.size+1+1+1,2,none⟩=some (.int .i64 (a.j:Int)):=bH (tO.2.2.2.1.trans jK.d);have f11:Z.frozen? ⟨w.heap.size+1+1+1,2,none⟩=false:=ae (tO.2.2.2.1.trans jK.d) 2;have Pz:=jK.more Fc Gi DV ((a.j:Int)+1) (by show _=((a.j+1:Nat):Int);omega);have dV:=aV.grown rfl J Gi (λr e=>by
      obtain⟨cur,L⟩:=bJ jK.rc e;exact⟨jn jK.rc e,cur,_,L⟩)
     have dX:=(dV.set rfl (b:=w.heap.size+1) (by omega) (by omega) 0 (.slice (some ⟨g4,0,none⟩) (a.rc.length+(R y).d.length) DU)).set rfl (b:=w.heap.size+1+1+1) (by omega) (by omega) 2 (.int .i64 ((a.j:Int)+1));have Zd:(a.j:Int)<1000000:=(by omega);have Ze:w.heap.size+6<=((Z.setCell ⟨w.heap.size+1,0,none⟩ (.slice (some ⟨g4,0,none⟩) (a.rc.length+(R y).d.length) DU)).setCell ⟨w.heap.size+1+1+1,2,none⟩ (.int .i64 ((a.j:Int)+1))).heap.size:=(by have:=dX.k.size;omega);obtain⟨HM,T8,HZ5,ro⟩:=Bg Pz dX Ze bC;clear bz jK aV dV dX Pz tO Fc Gi DV E8 bC Ze
     gi_wp2_with (gi_at_builtin;refine rn rfl _ _ 36 rfl _ _ _ rfl rfl ro.o ?_)
     exact⟨HS.o▸T8.o.k,T8.o.p,_,_,_,Vk.o,HM.o,T8.o.b,HZ5.o⟩
 case done=>
  rintro D xs W hD o7 ⟨a,G,z,H,m,I,J⟩ Q0;have q1:=m.r.cell;have q2:W.cell? ⟨w.heap.size+1+1,0,none⟩=some (.int .i64 (a.hd:Int)):=m.h.cell;have Zb:prog.follows .mixedOrders=true:=by kernel_rfl
  have ht:=Nn R E T n iQ a (by rw [<-o7];exact H);have HZ:=yh (Gg m.rs (by omega) I Q0 (by omega) ht);clear m I J H ht o7
  gi_wp2
  refine Cw ?_
  gi_region_with_o (fail)
  all_goals
   gi_wp2
   rw [Exit.noGoto_ret];refine⟨by simp, .inl ⟨_,_,rfl,run_takeDeferred Q0,?_⟩⟩;refine⟨_,results_tmp2 rfl _ _ _,?_⟩;simp only [Act.put,List.getElem_toArray,List.getElem_cons_zero,List.getElem_cons_succ,List.setIfInBounds_toArray,List.set_cons_zero,List.set_cons_succ];exact HZ.o
 case stop=>
  rintro D c u W hD ⟨k,hk,pK⟩ ⟨rfl,QX,x,a,ps,c',G,z,h0,H,IZ,m,I⟩ Q0;have q1:=m.r.cell;have q2:W.cell? ⟨w.heap.size+1+1,0,none⟩=some (.int .i64 (a.hd:Int)):=m.h.cell;have Zb:prog.follows .mixedOrders=true:=by kernel_rfl
  have ht:dC (Rp R n) E T a.rs a.hd/\∀c d,¬Rec (Rp R n) E a.hd c d:=by
   subst h0;obtain⟨oY,uK⟩:=pK.split;exact Nm R E T n k a (by rw [<-oY];exact H) (by rw [<-uK];exact IZ)
  have HZ:=yh (Gg m.rs (by omega) I Q0 (by omega) ht);clear m I H ht pK h0 IZ
  gi_wp2
  refine Cw ?_
  gi_region_with_o (fail)
  all_goals
   gi_wp2
   rw [Exit.noGoto_ret];refine⟨by simp, .inl ⟨_,_,rfl,run_takeDeferred Q0,?_⟩⟩;refine⟨_,results_tmp2 rfl _ _ _,?_⟩;simp only [Act.put,List.getElem_toArray,List.getElem_cons_zero,List.getElem_cons_succ,List.setIfInBounds_toArray,List.set_cons_zero,List.set_cons_succ];exact HZ.o
end
section
def dW (S:DS) (f:Nat):Nat->PC:=λi=>cF (S.now (f+2+i))
def bV (S:DS) (f:Nat):Nat×Nat×Nat:=gU (S.now f) (S.now (f+1))
def ia (S:DS) (f n:Nat):Nat:=max (bV S f).1 (rtop (dW S f) n)
theorem xE {S:DS} (h:(bV S f).2.2=0):1<=(bV S f).1/\(bV S f).1<=1073741824/\(bV S f).2.1<=1073741824:=by
 unfold bV gU at*;split at h
 .cases h
 .rename_i a;rw [aA a];refine⟨?_,?_,?_⟩<;> simp only <;> omega
theorem xF {S:DS} (h:(bV S f).2.2=0):ia S f n<=1073741824:=by
 unfold ia;have:=xE h;have:=xC (dW S f) n;omega
structure Told (w':World) (B l p:Nat) (L:LG) (S:DS) (v:Value) (rs:List (List Int)) (hd:Nat):Prop where
 r:dQ w' B v rs (λ_=>False)
 t:dC (Rp (dW S L.f) L.n) (bV S L.f).1 (bV S L.f).2.1 rs hd
 x:∀c d,¬Rec (Rp (dW S L.f) L.n) (bV S L.f).1 hd c d
 p:cQ w' l p {L with ep:=(bV S L.f).1,tail:=(bV S L.f).2.1,head:=hd,top:=ia S L.f L.n}
def pM (w':World) (B l p:Nat) (L:LG) (S:DS) (e:Ending):Prop:=
 if (bV S L.f).2.2≠0 then e= .returned (.tuple #[.slice none 0 0,iV ((bV S L.f).2.2:Int)])
 else if ia S L.f L.n=1073741824 then e= .returned (.tuple #[.slice none 0 0,iV 41])
 else∃v rs hd,e= .returned (.tuple #[v,iV 0])/\Told w' B l p L S v rs hd
theorem cQ.J0 {w:World} {l p:Nat} {L:LG} (h:cQ w l p L) (T:Int) (n:Nat) (a:T=(n:Int)):cQ (w.setCell ⟨l,8,none⟩ (.int .i64 T)) l p {L with top:=n}:=by
 subst a;exact(heap_setCell_same _ _ 8 _ _ _ h).trans (by simp)
theorem cQ.marked {w:World} {l p:Nat} {L:LG} (h:cQ w l p L) (E T H:Nat):cQ (((w.setCell ⟨l,5,none⟩ (.int .i64 (E:Int))).setCell ⟨l,6,none⟩ (.int .i64 (T:Int))).setCell ⟨l,7,none⟩ (.int .i64 (H:Int))) l p {L with ep:=E,tail:=T,head:=H}:=
   (heap_setCell_same _ _ 7 _ _ _ (heap_setCell_same _ _ 6 _ _ _ (heap_setCell_same _ _ 5 _ _ _ h))).trans (by simp)
section
variable {w:World} {F:Nat->Prop} {p s l:Nat} {S:DS} {L:LG}
end
end
section
def bu (S:DS) (s:Nat) (f n:Int):Int×DS:=
 if cq S s f n≠0 then (cq S s f n,S) else if (bV S f.toNat).2.2≠0 then (((bV S f.toNat).2.2:Int),S.take)
 else if ia S f.toNat n.toNat=1073741824 then (41,S.take) else S.take.fl s
def LG.new (S:DS) (f n:Nat):LG:=⟨f,n,wrap64 (S.life+1),false,0,0,0,0⟩
def J1 (w w':World) (p s:Nat) (S:DS) (f n:Int) (e:Ending):Prop:=
 if (bu S s f n).1≠0 then e= .returned (.tuple #[.pointer none, .slice none 0 0,iV (bu S s f n).1])
 else∃l v rs hd,e= .returned (.tuple #[pQ l,v,iV 0])/\w.heap.size<=l/\Told w' w.heap.size l p (LG.new S f.toNat n.toNat) S v rs hd
theorem Told.low {w:World} {B l p:Nat} {L:LG} {S:DS} (h:Told w B l p L S v rs hd) (a:B'<=B):Told w B' l p L S v rs hd:=⟨h.r.low a (λ_ h=>h),h.t,h.x,h.p⟩
theorem Told.au {w:World} {B l p:Nat} {L:LG} {S:DS} {F:Nat->Prop} (h:Told w B l p L S v rs hd) (d:aa F w w') (f:∀k,F k->k<B) (u:¬F l):Told w' B l p L S v rs hd:=by
 refine⟨?_,h.t,h.x,h.p.au d u⟩;obtain⟨z,a,n⟩:=h.r;refine⟨z,em a (λg j=>?_),λi s=>?_⟩
 .obtain⟨cur,q⟩:=bJ a j;exact d.block g (aw q) (λb=>by have:=jn a j;have:=f _ b;omega)
 .obtain⟨g,c,e,m,o,y⟩:=n i s;exact⟨g,c,e,m.agree (d.block g m.lt (λb=>by have:=f _ b;omega)),o,y⟩
section
variable {w:World} {F:Nat->Prop} {p s:Nat} {S:DS}
theorem Told.Zf {w:World} {B l p:Nat} {L:LG} (h:Told w B l p L S.take v rs hd):Told w B l p L S v rs hd:=⟨h.r,h.t,h.x,h.p⟩
theorem pM.Zf {B l a b:Nat} {e:Ending} (h:pM w' B l p (LG.new S a b) S.take e):if (bV S a).2.2≠0 then e= .returned (.tuple #[.slice none 0 0,iV ((bV S a).2.2:Int)])
 else if ia S a b=1073741824 then e= .returned (.tuple #[.slice none 0 0,iV 41])
 else∃v rs hd,e= .returned (.tuple #[v,iV 0])/\Told w' B l p (LG.new S a b) S v rs hd:=by
 unfold pM at h;change if (bV S a).2.2≠0 then e= .returned (.tuple #[.slice none 0 0,iV ((bV S a).2.2:Int)])
  else if ia S a b=1073741824 then e= .returned (.tuple #[.slice none 0 0,iV 41])
  else∃v rs hd,e= .returned (.tuple #[v,iV 0])/\Told w' B l p (LG.new S a b) S.take v rs hd at h
 split at h
 .rename_i c;rw [aE c];exact h
 .rename_i c;rw [aA c];split at h
  .rename_i d;rw [aE d];exact h
  .rename_i d;rw [aA d];obtain⟨v,rs,hd,e,f⟩:=h;exact⟨v,rs,hd,e,f.Zf⟩
end
end
end Go.Proofs.YtenlkgicpllbhaaGreat
