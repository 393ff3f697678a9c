import Derived.Test.YtcpdggdfihjhoabGreatW01
import Derived.Test.YtcpdggdfihjhoabGreatW03
import Derived.OwnWalk
import Derived.Laws.AppendOwnNone
import Derived.Deep.RegionHeld3
import Derived.RangeFuncNested
import Derived.RangeFuncBound
import Derived.RangeFuncCalls
import Derived.RangeFuncLeaves
import Derived.Shelf.Abstract
import Derived.Shelf.RegionOpen
import Derived.OwnWalkIn
import Derived.TacticsInMore
import Derived.LoopNIn
import Derived.LoopIn
set_option maxRecDepth 20000
set_option maxHeartbeats 8000000
set_option linter.all false
namespace Go.Proofs.YtcpdggdfihjhoabGreat
open Go.Proofs.Tryz
open Go.RowKit Go.Maps
variable {S:DS} {rs:List (List Int)} {body d l:List Int} {E P T c g h i j k n n₀ p s:Nat} {F G:Nat->Prop} {w w' w1 w2 w3:World}
def fg {P:Program} {b:Func} {p q r s:Tmp} (h:b.results= #[.tmp p, .tmp q, .tmp r, .tmp s]) (a:Array Value) (w:World):
    (results b a).run P w= .ok (.tuple #[a.getD p undef,a.getD q undef,a.getD r undef,a.getD s undef]) w:=by
 simp [results,h]
def j9 {r:List Int} (h:l.length=512) (a:r.length=512):(prog.info? 212).map (·.size)=some (bs (l ++ r)).length:=by
 rw [pO,bs,List.length_map,ed,h,a]
def qQ {T:TypeId} {r:List Int} (h:j8 w T g (l ++ r)) (c:l.length=512) (d:r.length=512):Src w (some (aD g 0)) 512 l/\Src w (some (aD g 512)) 512 r:=by
 have j5:(l ++ r).length=1024:=by simp;omega
 have a:=h.src (o:=0) (n:=512) (by omega);have b:=h.src (o:=512) (n:=512) (by omega);rw [List.drop_zero,List.take_left' c] at a;rw [List.drop_left' c,nr (by omega)] at b;exact⟨a,b⟩
def F6 (a:Option Addr) (n c:Nat) (l:List Int) (s:Option Addr) (m d:Nat) (r:List Int) (w:World) (y:Src w a n l) (bo:Src w s m r) (M:Bytes l) (N:Bytes r):
  Calls prog 187 #[.slice a n c, .slice s m d] w λe w'=>∃v,e= .returned (.tuple #[iV (((am l r).1:Nat):Int),iV (((am l r).2.1:Nat):Int),v,iV (((am l r).2.2.2:Nat):Int)])/\xS w' w.heap.size v (am l r).2.2.1/\bW w w':=by
 obtain⟨S,h1,Cx,vf,aW,bV⟩:=jE kJ (jr a n c l s m d r w y bo) y.1 bo.1 (j9 (aT l) (aT r)) (all_oneCell_toArray (cF (bR l ++ bR r)));have rL:(bs (bR l ++ bR r)).length=1024:=by rw [bs,List.length_map,ed,aT,aT]
 obtain⟨F,x⟩:=bQ (bs (bR l ++ bR r));rw [<-x] at h1 aW bV rL;have L:=yh x;clear x y bo;go_in;go_wp2_with fail;refine bM h1 λw1 ar=>?_;have bO:(w1.alloc (.cells cT 212)).heap[w1.heap.size]? =some (.cells cT 212 (0,0)):=heap_alloc_new _ _;have ef:=cH bO dg;rw [<-rL] at ef;have bN:bW w (w1.alloc (.cells cT 212)):=ar.alloc ar.size _;have eE:=ar.size;have eR:=bN.trans ((aa.setCells (F:=λj=>j=w1.heap.size) rfl F 0 _).below (λj R=>by omega) bN.size);have aV:=eJ (l:=bR l ++ bR r) bO (by rw [dg,ed,aT,aT]);rw [<-L.o] at aV;obtain⟨Q,dE⟩:=bQ ((w1.alloc (.cells cT 212)).setCells w1.heap.size 0 F);rw [<-dE] at eR aV;obtain⟨dP,so,fd⟩:=kF eR aV dE;clear h1 bO bN ar eR aV dE;by_cases Fh:n=512/\m=512
 .obtain⟨rfl,rfl⟩:=Fh;rw [(gM Cx),(gM vf)] at so;obtain⟨s1,s2⟩:=qQ so.o Cx vf;have G:=ox w1.heap.size l r Q s1 s2 M N;have DB:=lV Cx vf;have lz:(am l r).2.1<=9223372036854775807:=by
   have T:=ky l;have U:=ky r;rw [DB];split
   .simp
   .split <;> simp only <;> omega
  have acW:((am l r).2.1=0/\(am l r).1=0/\(am l r).2.2.1= []/\(am l r).2.2.2=30)\/(0<(am l r).2.1/\(am l r).2.2.2=0):=by
   rw [DB];by_cases q:(az l).1=0/\(az r).1=0
   .rw [aG q];exact .inl ⟨rfl,rfl,rfl,rfl⟩
   .rw [aB q];by_cases H:(az l).1<(az r).1
    .rw [aG H];exact .inr ⟨by simp only;omega,rfl⟩
    .rw [aB H];exact .inr ⟨by simp only;omega,rfl⟩
  clear DB so s1 s2;go_wp2_with (refine wpList_store_mid rfl 212 _ _ rfl w1.heap.size 0 F.toArray rfl rfl ?h1 ?h2 bV ?_);case h1=>simpa using ef
  case h2=>simpa using aW
  rw [<-fd.o];refine G.mono ?_;rintro e i ⟨v,rfl,iS,bF⟩;obtain⟨I,J,O,C⟩:=iS;subst O;have iS:iA i w1.heap.size _ _:=⟨I,J,rfl,C⟩;have jT:=dP.o.trans (bF.mono dP.o.size);have k:=yh (λw' (h:bW i w')=>aH ((iS.lst eE).later h) (jT.trans (h.mono jT.size)));obtain⟨A,p⟩:=bQ ((am l r).1);obtain⟨B,f⟩:=bQ ((am l r).2.1);obtain⟨D,g⟩:=bQ ((am l r).2.2.1);obtain⟨E,u⟩:=bQ ((am l r).2.2.2);rw [<-p,<-f,<-g,<-u] at acW;rw [<-f] at lz;rw [<-g] at k;rw [<-p,<-f,<-g];have b:=yh (aH p (aH f (aH g u)));clear G C iS bF fd ef aW bV jT dP p f g u;rcases acW with ⟨rfl,rfl,rfl,rfl⟩|⟨Dr,rfl⟩
  .go_wp2;exact bodyPost_ret (fg (P:=prog) rfl _ _) rfl ⟨.slice none 0 0,by rw [<-b.o.1,<-b.o.2.1,<-b.o.2.2.2];rfl,by rw [<-b.o.2.2.1];exact xS.nil _ _,(k.o _ ((bi _ i).alloc (bS _) _)).2⟩
  .have acn:((B:Int) == 0)=false:=(by rw [fJ];omega);generalize t:D.length=K at*;clear t;go_wp2;go_quiet (fail);go_wp2;exact bodyPost_ret (fg (P:=prog) rfl _ _) rfl ⟨.slice I K J,by rw [<-b.o.1,<-b.o.2.1,<-b.o.2.2.2];rfl,by rw [<-b.o.2.2.1];exact(k.o _ (below_drewN ((bi _ i).alloc (bS _) _) _)).1,(k.o _ (below_drewN ((bi _ i).alloc (bS _) _) _)).2⟩
 .have z:am l r=(0,0, [],2):=by unfold am;rw [aG (by omega)]
  have gW:(decide (n=512) && decide (m=512))=false:=by
   rw [<-Bool.decide_and,decide_eq_false Fh]
  have Po:=yh z;rw [gW];clear z gW Fh;go_wp2_with (refine wpList_store_mid rfl 212 _ _ rfl w1.heap.size 0 F.toArray rfl rfl ?h1 ?h2 bV ?_);case h1=>simpa using ef
  case h2=>simpa using aW
  rw [<-fd.o];exact bodyPost_ret (fg (P:=prog) rfl _ _) rfl ⟨.slice none 0 0,by rw [Po.o];rfl,by rw [Po.o];exact xS.nil _ _,dP.o⟩
def le_top {b:List Int} (a:Bytes b) (h:8<=b.length):le (b.take 8)<9223372036854775808↔b.getD 7 0<=127:=by
 have bq:le (b.take 7)<2 ^ 56:=by
  have:=lw (a.take 7);have c:(b.take 7).length=7:=by rw [List.length_take];omega
  rwa [c] at this
 have d:=a.getD 7;rw [(lC (l:=b) (k:=7) (by omega))];constructor <;> intro h <;> omega
def tM {B:List Int} (b:Bytes B) (a:j<B.length):le (B.drop j)=(B.getD j 0).toNat+256*le (B.drop (j+1)):=by
 rw [List.drop_eq_getElem_cons a];simp [le,List.getD,a]
def y9 {B:List Int} (a:Bytes B):∀j,le (B.drop j)<=le B
 |0=>bS _
 |j+1=>by
  refine j3 ?_ (y9 a j);by_cases b:j<B.length
  .rw [tM a b];omega
  .rw [List.drop_eq_nil_of_le (by omega),List.drop_eq_nil_of_le (by omega)];exact bS _
def wl (b o c:Nat) (s:List Int) (w:World) (A:Src w (some (aD b o)) 512 s) (Vo:Bytes s):
  Calls prog 195 #[.slice (some (aD b o)) 512 c] w λe w'=>∃v,e= .returned (.tuple #[iV (((az s).1:Nat):Int),v])/\Own w' w.heap.size v (az s).2/\bW w w':=by
 have a:=Cv b o c s w A Vo;have mR:=A.1;clear A;cases me:fA s with
 |none=>
  rw [kH mR me] at a
  dsimp only at a
  have nX:=yh (fk (.inl me));clear me;go_in;go_wp2_with fail;refine a.mono ?_;rintro e w1 ⟨v,rfl,_,ar⟩;have cQ:=yh ar;clear a ar;go_wp2;go_ret2;exact⟨_,by rw [nX.o];rfl,by rw [nX.o];exact Own.nil _ _,cQ.o⟩
 |some body=>
  have lx:=qM me mR;have gW:Bytes body:=by obtain⟨_,_,_,rfl⟩:=oj me;exact(Vo.drop _).take _
  rw [pN mR me] at a
  dsimp only at a
  by_cases K:body.length<8
  .have i9:=fk (.inr ⟨_,me, .inl K⟩);have nX:=yh i9;have n:(body.length:Int)<8:=(by omega);clear i9 me;go_in;go_wp2_with fail;refine a.mono ?_;rintro e w1 ⟨v,rfl,d,ar⟩;obtain⟨va,U,rfl,_,_,_⟩:=d.src;have cQ:=yh ar;clear a ar d;go_wp2;go_ret2;exact⟨_,by rw [nX.o];rfl,by rw [nX.o];exact Own.nil _ _,cQ.o⟩
  .have n:¬(body.length:Int)<8:=(by omega);have DR:=le_top gW (by omega);by_cases Y:127<body.getD 7 0
   .have i9:=fk (.inr ⟨_,me, .inr (by omega)⟩);have nX:=yh i9;clear i9 me DR;go_in;go_wp2_with fail;refine a.mono ?_;rintro e w1 ⟨v,rfl,d,ar⟩;obtain⟨g,U,rfl,_,k⟩:=d.full (by omega);have f:=k.get (i:=7) (by omega);have cQ:=yh ar;have F:(7:Int)<(body.length:Int):=(by omega);clear a ar d k;generalize body.getD 7 0=x at*;generalize body.length=N at*;go_wp2;go_ret2;exact⟨_,by rw [nX.o];rfl,by rw [nX.o];exact Own.nil _ _,cQ.o⟩
   .have kM:=tL me (by omega) (DR.2 (by omega));have lz:=DR.2 (by omega);have JI:=yh kM;have Nj:(body.take 8).length=8:=(by rw [List.length_take];omega);have QF:=gW.take 8;clear kM me DR;go_in;go_wp2_with fail;refine a.mono ?_;rintro e w1 ⟨v,rfl,d,ar⟩;obtain⟨g,U,rfl,hg,k⟩:=d.full (by omega);have f:=k.get (i:=7) (by omega);have cQ:=yh ar;have E:=yh k;have F:(7:Int)<(body.length:Int):=(by omega);have dC:=ar.size;clear a ar d k;obtain⟨x7,p⟩:=bQ (body.getD 7 0);rw [<-p] at f Y;obtain⟨N,y⟩:=bQ body.length;rw [<-y] at n F lx⊢;clear p;have t:=yh y;clear y K;go_wp2;go_loopw [6,7] (λr i wr=>∃j:Nat,j<=8/\i=iV ((j:Int)-1)/\wr=w1/\r=iV ((le ((body.take 8).drop j):Nat):Int)) (λ_ i _=>(intOf i+1).toNat);case atStart=>exact⟨8,bS _,rfl,rfl,by rw [List.drop_eq_nil_of_le (by omega)];rfl⟩
    case round=>
     clear f;obtain⟨j,hj,rfl,S,rfl⟩:=hrel;have eM:=S.symm;subst eM;clear S;by_cases bq:0<j
     .obtain⟨i,rfl⟩:∃i,j=i+1:=⟨j-1,by omega⟩;have O:=E.o.get (i:=i) (by have:=t.o;omega);have rM:=tM QF (j:=i) (by omega);have z:=y9 QF i;have J:(body.take 8).getD i 0=body.getD i 0:=(by simp [List.getD,show i<8 by omega]);rw [J] at rM;obtain⟨x,T⟩:∃x:Nat,body.getD i 0=(x:Int):=⟨(body.getD i 0).toNat,by have:=gW.getD i;omega⟩;have mg:x<256:=(by have:=gW.getD i;omega);rw [T] at O rM;simp only [Int.toNat_natCast] at rM;have G:((i+1:Nat):Int)-1=(i:Int):=(by omega);have hiN:(i:Int)<(N:Int):=(by omega);rw [G];generalize L:le ((body.take 8).drop i)=P at*;generalize le ((body.take 8).drop (i+1))=R at*;have uR:((R:Int)*256+(x:Int))=((P:Nat):Int):=(by omega);have hPs:P<9223372036854775808:=(by omega);obtain⟨X,l⟩:=bU L uR;clear rM z J T L G uR;have b1:(R:Int)*256<=9223372036854775807:=(by have:=l.o;omega);go_wp2;go_roundw;case rel=>exact⟨i,by omega,by go_num,trivial,by rw [X.o];exact congrArg (Value.int .i64) (by have:=l.o;omega)⟩
      case measure=>simp [intOf]
     .obtain rfl:j=0:=(by omega);rw [List.drop_zero,show (((0:Nat):Int)-1)= -1 by rfl];generalize Z:le (body.take 8)=M at*;clear Z;go_wp2;go_loopw [8,9] (λv i wx=>∃m:Nat,m<=N-8/\i=iV ((8+m:Nat):Int)/\Own wx w1.heap.size v ((body.drop 8).take m)/\bW w1 wx) (λ_ i _=>N-(intOf i).toNat);case atStart=>exact⟨0,dV _,rfl,Own.nil _ _,bi _ _⟩
      case round=>
       obtain⟨m,hm,rfl,aA,iq⟩:=hrel;have bt:=yh aA;have Un:=yh iq;have C:=iq.size;clear aA iq;have qN:(body.drop 8).length=N-8:=(by rw [List.length_drop,t.o]);by_cases xQ:m<N-8
       .have Br:((8+m:Nat):Int)<(N:Int):=(by omega);have O:=cell_later Un.o (E.o.get (i:=8+m) (by have:=t.o;omega));have u:=j7 (body.drop 8) m (by omega);have I:(body.drop 8).getD m 0=body.getD (8+m) 0:=(by simp [List.getD]);rw [I] at u;have Ct:=yh u;have j5:((body.drop 8).take m).length<=504:=(by rw [List.length_take];omega);clear u I;generalize body.getD (8+m) 0=x at*;generalize q:8+m=Q at*;have D:=yh q;clear q;go_wp2_with (at_builtin;refine co rfl _ _ rfl w1.heap.size u8 _ x rfl rfl bt.o ?b1 ?b2 ?_);case b1=>omega
        case b2=>exact C
        intro v' w' d eH;have W:Yh (Own w' w1.heap.size v' ((body.drop 8).take (m+1))):=(by rw [<-Ct.o];exact d);have xr:=yh (Un.o.trans (eH.mono (bS _)));clear d eH bt Un Ct;go_wp2;go_roundw;case rel=>exact⟨m+1,by omega,by have:=D.o;subst this;go_num,W.o,xr.o⟩
        case measure=>have:=D.o;simp [intOf];omega
       .obtain rfl:m=N-8:=(by omega);have Br:¬((8+(N-8):Nat):Int)<(N:Int):=(by omega);have H:(body.drop 8).take (N-8)=body.drop 8:=nr (by omega);rw [H] at bt;clear H;generalize q:8+(N-8)=Q at*;clear q;go_wp2;go_ret2;exact⟨_,by rw [JI.o];rfl,by rw [JI.o];exact Own.down bt.o dC,cQ.o.trans (Un.o.mono dC)⟩
def JM (a:Option Addr) (n c:Nat) (b:Option Addr) (m d:Nat) (w:World) (h:n≠512\/m≠512):
  Calls prog 161 #[.slice a n c, .slice b m d] w λe w'=>e= .returned (.tuple #[iV 0,iV 0, .slice none 0 0,iV 2])/\w'=w:=by
 go_in;by_cases g:n=512
 .subst g;have f:(((m:Int)) != 512)=true:=by rw [gA];omega
  go_wp2;exact bodyPost_ret (fg (P:=prog) rfl _ _) rfl ⟨rfl,rfl⟩
 .have f:(((n:Int)) != 512)=true:=by rw [gA];omega
  go_wp2;exact bodyPost_ret (fg (P:=prog) rfl _ _) rfl ⟨rfl,rfl⟩
def JN (b o c:Nat) (l:List Int) (n u d:Nat) (r:List Int) (w:World) (t:Src w (some (aD b o)) 512 l) (bo:Src w (some (aD n u)) 512 r) (H:Bytes l) (I:Bytes r):
  Calls prog 161 #[.slice (some (aD b o)) 512 c, .slice (some (aD n u)) 512 d] w λe w'=>∃v,e= .returned (.tuple #[iV (((am l r).1:Nat):Int),iV (((am l r).2.1:Nat):Int),v,iV (((am l r).2.2.2:Nat):Int)])/\Own w' w.heap.size v (am l r).2.2.1/\bW w w':=by
 have y:=wl b o c l w t H;have DB:=lV t.1 bo.1;have G:=bo;clear t bo;go_in;go_wp2_with fail;refine y.mono ?_;rintro e w1 ⟨K,rfl,tG,ar⟩;have p:=wl n u d r w1 (G.later ar) I;have cQ:=ar;have g:=tG;clear y ar tG;obtain⟨A,z⟩:=bQ (az l);obtain⟨B,C⟩:=bQ (az r);rw [<-z] at DB g⊢;rw [<-C] at DB p;have IT:=DB;clear z C DB;go_wp2_with fail;refine p.mono ?_;rintro e M ⟨E,rfl,jv,bd⟩;have dP:=(cQ.trans (bd.mono cQ.size));have ahR:=(Own.later g bd);have k:=(Own.down jv cQ.size);clear p bd jv cQ g;by_cases q:A.1=0/\B.1=0
 .have f:am l r=(0,0, [],30):=by rw [IT,aG q]
  obtain⟨D,i⟩:=q;rw [D,i];have a:=f;clear IT D i f;go_wp2;exact bodyPost_ret (fg (P:=prog) rfl _ _) rfl ⟨.slice none 0 0,by rw [a];rfl,by rw [a];exact Own.nil _ _,dP⟩
 .have f:=IT;rw [aB q] at f;by_cases i:A.1<B.1
  .rw [aG i] at f;have a:=f;have m:((A.1:Nat):Int)<((B.1:Nat):Int):=(by omega);have L:((((B.1:Nat):Int)) == 0)=false:=(by rw [fJ];omega);clear IT f q i;by_cases j:A.1=0
   .rw [j] at m⊢;generalize bN:B.1=x at*;have cQ:=bN;clear bN j;go_wp2;exact bodyPost_ret (fg (P:=prog) rfl _ _) rfl ⟨E,by rw [a];rfl,by rw [a];exact k,dP⟩
   .have J:((((A.1:Nat):Int)) == 0)=false:=(by rw [fJ];omega);generalize bN:B.1=x at*;generalize A.1=F at*;clear bN j;go_wp2;exact bodyPost_ret (fg (P:=prog) rfl _ _) rfl ⟨E,by rw [a];rfl,by rw [a];exact k,dP⟩
  .rw [aB i] at f;have a:=f;have m:¬((A.1:Nat):Int)<((B.1:Nat):Int):=(by omega);have J:((((A.1:Nat):Int)) == 0)=false:=(by rw [fJ];omega);clear IT f q i;generalize s:A.1=F at*;generalize B.1=x at*;clear s;go_wp2;exact bodyPost_ret (fg (P:=prog) rfl _ _) rfl ⟨K,by rw [a];rfl,by rw [a];exact ahR,dP⟩
def mv (a:Option Addr) (n c:Nat) (l:List Int) (f:Option Addr) (m d:Nat) (r:List Int) (w:World) (g:Src w a n l) (bo:Src w f m r) (k:Bytes l) (p:Bytes r):
  Calls prog 161 #[.slice a n c, .slice f m d] w λe w'=>∃v,e= .returned (.tuple #[iV (((am l r).1:Nat):Int),iV (((am l r).2.1:Nat):Int),v,iV (((am l r).2.2.2:Nat):Int)])/\Own w' w.heap.size v (am l r).2.2.1/\bW w w':=by
 by_cases h:n=512/\m=512
 .obtain⟨rfl,rfl⟩:=h;obtain⟨b,o,rfl⟩:=cX g (by omega);obtain⟨i,q,rfl⟩:=cX bo (by omega);exact JN b o c l i q d r w g bo k p
 .refine(JM a n c f m d w (by omega)).mono ?_;rintro e w' ⟨rfl,rfl⟩;have j:am l r=(0,0, [],2):=by unfold am;rw [aG (by have:=g.1;have:=bo.1;omega)]
  rw [j];exact⟨_,rfl,Own.nil _ _,bi _ _⟩
def F8 (l r:List Int):(am l r).2.2.1.length<=512:=by
 have h:∀s:List Int,s.length=512->(az s).2.length<=512:=by
  intro s a;unfold az;cases h:fA s with
  |none=>simp
  |some b=>
   have:=qM h a;simp only;split
   .simp only [List.length_drop];omega
   .simp
 unfold am;split
 .simp
 .next hh=>
  split
  .simp
  .split
   .exact h r (by omega)
   .exact h l (by omega)
def iT (w:World) {b:Array Oper} {rest:List Oper} {o:Oper} {a:Act} {Q:Exit->Act->World->Prop}
    (p:o.guard=none) (l c:Operand) (me:o.op=Op.makeSlice 22 l c) (C:Int) (m n:Nat) (r:a.eval l=iV (m:Int)) (k:a.eval c=iV C) (g:C=(n:Int)) (s:m<=n) (t:n<=140737488355328)
    (j:∀w',j8 w' 5 w.heap.size (zs n)->bW w w'->wpList prog b Q rest (a.put o.dst (.slice (some (aD w.heap.size 0)) m n)) w'):
  wpList prog b Q (o :: rest) a w:=by
 refine wpList_plain p λK By=>?_;obtain⟨i,q,gB,dC,eu⟩:=info_parts gh;subst g;have f:=run_make (P:=prog) w 22 5 i (.int .u8 0) underlying22 q gB .i64 .i64 (m:Int) (n:Int) (by omega) (by omega) (by rw [eu];omega) (by omega);simp only [Int.toNat_natCast,dC,Nat.mul_one] at f;unfold Oper.wp;simp [execOp,me,r,k,f,Result.andThen];refine By _ _ (j _ ?_ ?_)
 .have d:=heap_alloc_new w (.cells (madeCells (Value.int .u8 0).cells n) 5);have e:madeCells (Value.int .u8 0).cells n=(bs (zs n)).toArray:=by
   apply Array.ext';have:(Value.int .u8 0).cells= #[Value.int .u8 0]:=rfl;rw [this,toList_madeCells_one];simp [bs,zs]
  rw [e] at d;unfold j8;rw [<-d];simp [e]
 .exact(bi _ w).alloc (bS _) _
def Vq (n:Nat):bB 8 n=aS n:=by
 rw [Cr];simp only [bB,Nat.div_div_eq_div_mul]
def L7 {B:Nat} {p q:List Int} (h:j8 w 5 g (p ++ q)) (a:B<=g) (c:n=(p ++ q).length) (b:n<=maxLen):Own w B (.slice (some (aD g 0)) p.length n) p:=by
 subst c;refine⟨by simp [bs], .inr ⟨g,(p ++ q).length,_,rfl,a,h,by simp,b,by simp [bs],?_⟩⟩;rw [iQ];simp [bs]
def pP (N:Nat) (a:Option Addr) (n c:Nat) (l:List Int) (w:World) (s:N<9223372036854775808) (b:Src w a n l) (t:n<=496) (tB:a=none->c=0):
  Calls prog 182 #[iV (N:Int), .slice a n c] w λe w'=>∃v,e= .returned v/\Own w' w.heap.size v (aS N ++ l)/\bW w w':=by
 obtain⟨k,d,gB,dC,eu⟩:=info_parts gh;have g:=b.1;go_in;go_wp2_with (at_make;refine iT _ rfl _ _ rfl _ 8 (8+n) rfl rfl ?c1 ?c2 ?c3 ?_);case c1=>omega
 case c2=>omega
 case c3=>omega
 intro w1 aV ar;have cq:=DK w.heap.size 0 8 (8+n) N 5 (zs (8+n)) w1 aV (by omega) (by rw [bH];omega);have r:put (zs (8+n)) 0 (bB 8 N)=aS N ++ zs n:=by
  rw [Vq,put,lU,dO];simp only [List.take_zero,List.nil_append,Nat.zero_add];rw [List.drop_left' (bH 8)]
 rw [r] at cq;go_wp2_with fail;refine pj cq λo acX aY aol=>?_;have eR:=ar.trans (aY.below (λj f=>by omega) ar.size);have aA:=L7 acX (bS _) (by rw [ed,dO,bH]) (by unfold maxLen;omega);rw [dO] at aA;have be:o.ownsRow w.heap.size 5 1 (.slice (some (aD w.heap.size 0)) 8 (8+n)) 8 (bs (aS N)):=by
  have:=aA;unfold Own at this;rwa [dO] at this
 have i:=eR.size;cases a with
 |none=>
  have kZ:=b.2.1 rfl;subst kZ;have vX:=List.eq_nil_of_length_eq_zero g;subst vX;have Jp:=tB rfl;subst Jp;go_wp2_with (at_builtin;refine wpList_append_own_none rfl _ _ 22 rfl w.heap.size 5 k 1 underlying22 d _ 8 (bs (aS N)) rfl be rfl ?_);go_ret;exact⟨_,rfl,by rw [List.append_nil];exact aA,eR⟩
 |some x=>
  have vg:=(λj u (f:(bs l)[j]? =some u)=>show o.cell? (x.add j)=some u by
   obtain⟨Zg,rfl⟩:=fx f;exact cell_later eR (b.2.2 _ rfl j (by omega)))
  have j5:(bs l).length=n:=by rw [bs,List.length_map,g]
  go_wp2_with (at_builtin;refine wpList_append_own _ rfl _ _ 22 rfl w.heap.size 5 k (.int .u8 0) 1 1 underlying22 d gB dC eu rfl (by decide) _ 8 (bs (aS N)) rfl be x n c (bs l) rfl ?n0 vg ?n2 ?n3 ?n4 ?n5 ?_);case n0=>omega
  case n2=>exact cF _
  case n3=>unfold maxLen;omega
  case n4=>omega
  case n5=>exact i
  intro y z cM k9 _;rw [<-iQ] at cM;have p:=(DI (m:=aS N ++ l) cM (by rw [ed,dO];omega) rfl);go_wp2;go_ret;exact⟨_,rfl,p,eR.grown k9 i (λq e=>(be.lt q e).1)⟩
def Cy (s n:Nat) (v:Value) (w:World) (c:s<=1):
  Calls prog 179 #[.agg #[iV (s:Int),iV (n:Int),v]] w λe w'=>e= .returned (iV ((if n=0 then 0 else 1-s:Nat):Int))/\bW w w':=by
 have a:=((bi w.heap.size w).alloc (bS _) (.cells #[.int .i64 (s:Int), .int .i64 (n:Int),v] 216));go_in;by_cases h:n=0
 .subst h;go_wp2;go_ret;exact⟨rfl,a⟩
 .have b:((n:Int) == 0)=false:=by rw [fJ];omega
  have e:((if n=0 then 0 else 1-s:Nat):Int)=1-(s:Int):=by rw [aB h];omega
  rw [e];go_wp2;go_ret;exact⟨rfl,a⟩
def Nk (a:Option Addr) (n c:Nat) (l:List Int) (b:Option Addr) (m d:Nat) (r:List Int) (k:Option Addr) (q p:Nat) (num:Int) (w:World) (g:Src w a n l) (bo:Src w b m r) (i9:¬(n=512/\m=512)):
  Calls prog 146 #[.slice a n c, .slice b m d,iV num, .slice k q p] w λe w'=>e= .returned (.tuple #[iV 0, .slice none 0 0,iV 2])/\bW w w':=by
 have Fh:(decide (n=512) && decide (m=512))=false:=by rw [<-Bool.decide_and,decide_eq_false i9]
 clear i9;obtain⟨t,h1,aW,bV⟩:=cO kJ (jr a n c l b m d r w g bo) (j9 (aT l) (aT r)) (all_oneCell_toArray (cF (bR l ++ bR r)));have rL:(bs (bR l ++ bR r)).length=1024:=by rw [bs,List.length_map,ed,aT,aT]
 obtain⟨F,f⟩:=bQ (bs (bR l ++ bR r));rw [<-f] at h1 aW bV rL;have i:=yh f;clear f g bo;go_in;go_wp2_with fail;refine bM h1 λw1 ar=>?_;have bO:(w1.alloc (.cells cT 212)).heap[w1.heap.size]? =some (.cells cT 212 (0,0)):=heap_alloc_new _ _;have ef:=cH bO dg;rw [<-rL] at ef;have bN:bW w (w1.alloc (.cells cT 212)):=ar.alloc ar.size _;have eE:=ar.size;have eR:=bN.trans ((aa.setCells (F:=λj=>j=w1.heap.size) rfl F 0 _).below (λj s=>by omega) bN.size);have aV:=eJ (l:=bR l ++ bR r) bO (by rw [dg,ed,aT,aT]);rw [<-i.o] at aV;obtain⟨u,dE⟩:=bQ ((w1.alloc (.cells cT 212)).setCells w1.heap.size 0 F);rw [<-dE] at eR aV;obtain⟨dP,fd⟩:=bU eR dE;clear h1 bO bN ar eR aV dE;rw [Fh];go_wp2_with (refine wpList_store_mid rfl 212 _ _ rfl w1.heap.size 0 F.toArray rfl rfl ?h1 ?h2 bV ?_);case h1=>simpa using ef
 case h2=>simpa using aW
 rw [<-fd.o];go_ret3;exact⟨rfl,dP.o⟩
def Nl (a:Option Addr) (n c:Nat) (l:List Int) (b:Option Addr) (m d:Nat) (r:List Int) (k:Option Addr) (q p:Nat) (num:Int) (w:World) (g:Src w a n l) (bo:Src w b m r) (kM:n=512/\m=512) (s:num<1):
  Calls prog 146 #[.slice a n c, .slice b m d,iV num, .slice k q p] w λe w'=>e= .returned (.tuple #[iV 0, .slice none 0 0,iV 1])/\bW w w':=by
 have Fh:(decide (n=512) && decide (m=512))=true:=by rw [<-Bool.decide_and,decide_eq_true kM]
 clear kM;obtain⟨u,h1,aW,bV⟩:=cO kJ (jr a n c l b m d r w g bo) (j9 (aT l) (aT r)) (all_oneCell_toArray (cF (bR l ++ bR r)));have rL:(bs (bR l ++ bR r)).length=1024:=by rw [bs,List.length_map,ed,aT,aT]
 obtain⟨F,f⟩:=bQ (bs (bR l ++ bR r));rw [<-f] at h1 aW bV rL;have i:=yh f;clear f g bo;go_in;go_wp2_with fail;refine bM h1 λw1 ar=>?_;have bO:(w1.alloc (.cells cT 212)).heap[w1.heap.size]? =some (.cells cT 212 (0,0)):=heap_alloc_new _ _;have ef:=cH bO dg;rw [<-rL] at ef;have bN:bW w (w1.alloc (.cells cT 212)):=ar.alloc ar.size _;have eE:=ar.size;have eR:=bN.trans ((aa.setCells (F:=λj=>j=w1.heap.size) rfl F 0 _).below (λj t=>by omega) bN.size);have aV:=eJ (l:=bR l ++ bR r) bO (by rw [dg,ed,aT,aT]);rw [<-i.o] at aV;obtain⟨v,dE⟩:=bQ ((w1.alloc (.cells cT 212)).setCells w1.heap.size 0 F);rw [<-dE] at eR aV;obtain⟨dP,fd⟩:=bU eR dE;clear h1 bO bN ar eR aV dE;rw [Fh];go_wp2_with (refine wpList_store_mid rfl 212 _ _ rfl w1.heap.size 0 F.toArray rfl rfl ?h1 ?h2 bV ?_);case h1=>simpa using ef
 case h2=>simpa using aW
 rw [<-fd.o];go_ret3;exact⟨rfl,dP.o⟩
def Nm (a:Option Addr) (n c:Nat) (l:List Int) (b:Option Addr) (m d:Nat) (r:List Int) (k:Option Addr) (q p:Nat) (num:Int) (w:World) (g:Src w a n l) (bo:Src w b m r) (kM:n=512/\m=512) (s:¬num<1) (t:496<q):
  Calls prog 146 #[.slice a n c, .slice b m d,iV num, .slice k q p] w λe w'=>e= .returned (.tuple #[iV 0, .slice none 0 0,iV 7])/\bW w w':=by
 have Fh:(decide (n=512) && decide (m=512))=true:=by rw [<-Bool.decide_and,decide_eq_true kM]
 have aom:496<(q:Int):=by omega
 clear kM;obtain⟨v,h1,aW,bV⟩:=cO kJ (jr a n c l b m d r w g bo) (j9 (aT l) (aT r)) (all_oneCell_toArray (cF (bR l ++ bR r)));have rL:(bs (bR l ++ bR r)).length=1024:=by rw [bs,List.length_map,ed,aT,aT]
 obtain⟨F,f⟩:=bQ (bs (bR l ++ bR r));rw [<-f] at h1 aW bV rL;have i:=yh f;clear f g bo;go_in;go_wp2_with fail;refine bM h1 λw1 ar=>?_;have bO:(w1.alloc (.cells cT 212)).heap[w1.heap.size]? =some (.cells cT 212 (0,0)):=heap_alloc_new _ _;have ef:=cH bO dg;rw [<-rL] at ef;have bN:bW w (w1.alloc (.cells cT 212)):=ar.alloc ar.size _;have eE:=ar.size;have eR:=bN.trans ((aa.setCells (F:=λj=>j=w1.heap.size) rfl F 0 _).below (λj u=>by omega) bN.size);have aV:=eJ (l:=bR l ++ bR r) bO (by rw [dg,ed,aT,aT]);rw [<-i.o] at aV;obtain⟨x,dE⟩:=bQ ((w1.alloc (.cells cT 212)).setCells w1.heap.size 0 F);rw [<-dE] at eR aV;obtain⟨dP,fd⟩:=bU eR dE;clear h1 bO bN ar eR aV dE;rw [Fh];go_wp2_with (refine wpList_store_mid rfl 212 _ _ rfl w1.heap.size 0 F.toArray rfl rfl ?h1 ?h2 bV ?_);case h1=>simpa using ef
 case h2=>simpa using aW
 rw [<-fd.o];go_ret3;exact⟨rfl,dP.o⟩
def Nn (a:Option Addr) (n c:Nat) (l:List Int) (b:Option Addr) (m d:Nat) (r:List Int) (p:Option Addr) (q s:Nat) (num:Int) (w:World) (g:Src w a n l) (bo:Src w b m r) (x:Bytes l) (z:Bytes r) (kM:n=512/\m=512) (t:¬num<1) (u:q<=496) (Vr:num<=(((am l r).2.1:Nat):Int)):
  Calls prog 146 #[.slice a n c, .slice b m d,iV num, .slice p q s] w λe w'=>e= .returned (.tuple #[iV 0, .slice none 0 0,iV 31])/\bW w w':=by
 obtain⟨Uo,xV⟩:=kM;subst Uo;subst xV;have Fh:(decide (512=512) && decide (512=512))=true:=rfl;have XK:=yh Vr;clear Vr;obtain⟨J,h1,Cx,vf,aW,bV⟩:=jE kJ (jr a 512 c l b 512 d r w g bo) g.1 bo.1 (j9 (aT l) (aT r)) (all_oneCell_toArray (cF (bR l ++ bR r)));have rL:(bs (bR l ++ bR r)).length=1024:=by rw [bs,List.length_map,ed,aT,aT]
 obtain⟨F,f⟩:=bQ (bs (bR l ++ bR r));rw [<-f] at h1 aW bV rL;have k:=yh f;clear f g bo;go_in;go_wp2_with fail;refine bM h1 λw1 ar=>?_;have bO:(w1.alloc (.cells cT 212)).heap[w1.heap.size]? =some (.cells cT 212 (0,0)):=heap_alloc_new _ _;have ef:=cH bO dg;rw [<-rL] at ef;have bN:bW w (w1.alloc (.cells cT 212)):=ar.alloc ar.size _;have eE:=ar.size;have eR:=bN.trans ((aa.setCells (F:=λj=>j=w1.heap.size) rfl F 0 _).below (λj I=>by omega) bN.size);have aV:=eJ (l:=bR l ++ bR r) bO (by rw [dg,ed,aT,aT]);rw [<-k.o] at aV;obtain⟨H,dE⟩:=bQ ((w1.alloc (.cells cT 212)).setCells w1.heap.size 0 F);rw [<-dE] at eR aV;obtain⟨dP,so,fd⟩:=kF eR aV dE;clear h1 bO bN ar eR aV dE;rw [Fh];rw [(gM Cx),(gM vf)] at so;obtain⟨s1,s2⟩:=qQ so.o Cx vf;have i:=ox w1.heap.size l r H s1 s2 x z;clear s1 s2 so;go_wp2_with (refine wpList_store_mid rfl 212 _ _ rfl w1.heap.size 0 F.toArray rfl rfl ?h1 ?h2 bV ?_);case h1=>simpa using ef
 case h2=>simpa using aW
 rw [<-fd.o];refine i.mono ?_;rintro e K ⟨v,rfl,iS,bF⟩;obtain⟨E,G,C,y⟩:=iS;subst C;have gd:=yh ((dP.o.trans (bF.mono dP.o.size)).alloc (j3 dP.o.size bF.size) (.cells #[.int .i64 (((am l r).1:Nat):Int), .int .i64 (((am l r).2.1:Nat):Int), .slice E (am l r).2.2.1.length G] 216));clear i y bF fd ef aW bV dP;have Vr:=XK.o;clear XK;generalize (am l r).1=A at*;generalize (am l r).2.1=B at*;generalize (am l r).2.2.1.length=D at*;go_wp2;go_ret3;exact⟨rfl,gd.o⟩
def No (a:Option Addr) (n c:Nat) (l:List Int) (p:Option Addr) (m d:Nat) (r:List Int) (k:Option Addr) (q x:Nat) (b:List Int) (num:Int) (w:World) (H:Src w a n l) (bo:Src w p m r) (hl:Bytes l) (hr:Bytes r) (kM:n=512/\m=512) (N:Nat) (fB:num=(N:Int)) (vh:1<=N) (XL:N<9223372036854775808) (fK:Src w k q b) (L8:Bytes b) (y:q<=496) (tB:k=none->x=0) (Vr:(am l r).2.1<N) (O:(am l r).1<=1) (F9:(if (am l r).2.1=0 then 0 else 1-(am l r).1)=0):
  Calls prog 146 #[.slice a n c, .slice p m d,iV num, .slice k q x] w λe w'=>∃g,e= .returned (.tuple #[iV 0, .slice (some (aD g 0)) 512 512,iV 0])/\j8 w' 210 g (bh (cG (l.getD 0 0) (l.getD 511 0)) (aS N ++ b))/\w.heap.size<=g/\bW w w':=by
 subst fB;obtain⟨Uo,xV⟩:=kM;subst Uo;subst xV;have Fh:(decide (512=512) && decide (512=512))=true:=rfl;obtain⟨XK,L,Ga⟩:=kF Vr O F9;clear Vr O F9;obtain⟨T,qN,eu,hz,h1,Cx,vf,aW,bV⟩:=MQ (yh fK) fK.1 ji kJ (jr a 512 c l p 512 d r w H bo) H.1 bo.1 (j9 (aT l) (aT r)) (all_oneCell_toArray (cF (bR l ++ bR r)));have rL:(bs (bR l ++ bR r)).length=1024:=by rw [bs,List.length_map,ed,aT,aT]
 obtain⟨F,z⟩:=bQ (bs (bR l ++ bR r));rw [<-z] at h1 aW bV rL;have U:=yh z;clear z H bo fK;go_in;go_wp2_with fail;refine bM h1 λw1 ar=>?_;have bO:(w1.alloc (.cells cT 212)).heap[w1.heap.size]? =some (.cells cT 212 (0,0)):=heap_alloc_new _ _;have ef:=cH bO dg;rw [<-rL] at ef;have bN:bW w (w1.alloc (.cells cT 212)):=ar.alloc ar.size _;have eE:=ar.size;have eR:=bN.trans ((aa.setCells (F:=λj=>j=w1.heap.size) rfl F 0 _).below (λj Z=>by omega) bN.size);have aV:=eJ (l:=bR l ++ bR r) bO (by rw [dg,ed,aT,aT]);rw [<-U.o] at aV;obtain⟨w2,dE⟩:=bQ ((w1.alloc (.cells cT 212)).setCells w1.heap.size 0 F);rw [<-dE] at eR aV;obtain⟨dP,so,fd⟩:=kF eR aV dE;clear h1 bO bN ar eR aV dE;rw [Fh];rw [(gM Cx),(gM vf)] at so;obtain⟨s1,s2⟩:=qQ so.o Cx vf;have Q:=ox w1.heap.size l r w2 s1 s2 hl hr;have oV:=yh s1;clear s1 s2 so;go_wp2_with (refine wpList_store_mid rfl 212 _ _ rfl w1.heap.size 0 F.toArray rfl rfl ?h1 ?h2 bV ?_);case h1=>simpa using ef
 case h2=>simpa using aW
 rw [<-fd.o];refine Q.mono ?_;rintro e K ⟨v,rfl,iS,bF⟩;obtain⟨R,S,hv,hq⟩:=iS;subst hv;have jT:=dP.o.trans (bF.mono dP.o.size);have fw:bW K (K.alloc (.cells #[.int .i64 (((am l r).1:Nat):Int), .int .i64 (((am l r).2.1:Nat):Int), .slice R (am l r).2.2.1.length S] 216)):=(bi _ K).alloc (bS _) _;obtain⟨jU,M,E⟩:=kF (jT.trans (fw.mono jT.size)) ((oV.o.later bF).later fw) (λw'=>Cy (am l r).1 (am l r).2.1 (.slice R (am l r).2.2.1.length S) w' L.o);rw [Ga.o] at E;have ahT:¬(N:Int)<=(((am l r).2.1:Nat):Int):=by have:=XK.o;omega
 clear XK L Ga;clear Q hq bF fd ef aW bV dP jT fw oV;generalize (am l r).1=A at*;generalize (am l r).2.1=B at*;generalize (am l r).2.2.1.length=D at*;go_wp2_with fail;refine(E.out _).mono ?_;rintro e w5 ⟨rfl,fa⟩;obtain⟨jq,Zu⟩:=bU (jU.o.trans (fa.mono jU.o.size)) (M.o.later fa);have s:=Zu.o.2.2 _ rfl 0 (by omega);have u:=Zu.o.2.2 _ rfl 511 (by omega);rw [aN] at s u;have I:=oo w1.heap.size 0 (l.getD 0 0) (l.getD 511 0) w5 s u;have ht:=gu (l.getD 0 0) (l.getD 511 0);obtain⟨t,xp⟩:=bQ (cG (l.getD 0 0) (l.getD 511 0));rw [<-xp] at ht I;have QE:=yh xp;clear E fa jU M s u xp;go_wp2_with fail;refine bM I λw' P=>?_;have eM:=P.symm;subst eM;clear P I;go_wp2_with fail;refine(pP N k q x b w5 XL (T.o.later jq.o) y tB).mono ?_;rintro e w6 ⟨v6,rfl,XH,nE⟩;obtain⟨p6,Y,rfl,Up,_,_⟩:=XH.src;have lx:(aS N ++ b).length=8+q:=by rw [ed,dO,qN]
 rw [lx] at Up⊢;have xu:=yh (jq.o.trans (nE.mono jq.o.size));have J:=ou t p6 (8+q) Y (aS N ++ b) w6 (by omega) Up (by omega) ((iO N).append L8);have jW:(bh t (aS N ++ b)).length=512:=fv (by omega);have za:=i8 (l:=bh t (aS N ++ b)) jW;have Gb:=all_oneCell_toArray (cF (bh t (aS N ++ b)));have DN:(bs (bh t (aS N ++ b))).length=512:=by rw [bs,List.length_map,jW]
 obtain⟨G,C⟩:=bQ (bs (bh t (aS N ++ b)));rw [<-C] at J za Gb DN;have W:=yh C;clear XH nE Up jq C;generalize 8+q=Q8 at*;go_wp2_with fail;refine bM J λf xx=>?_;have Bw:=xu.o.trans (xx.mono xu.o.size);have Uq:(f.alloc (.cells bm 210)).heap[f.heap.size]? =some (.cells bm 210 (0,0)):=heap_alloc_new _ _;have ef:=cH Uq cP;rw [<-DN] at ef;have aV:=eJ (l:=bh t (aS N ++ b)) Uq (by rw [cP,jW]);rw [<-W.o] at aV;have ahU:=Bw.size;have Ni:bW w (f.alloc (.cells bm 210)):=Bw.alloc Bw.size _;have i:=Ni.trans ((aa.setCells (F:=λj=>j=f.heap.size) rfl G 0 _).below (λj Z=>by omega) Ni.size);rw [QE.o] at aV;have X:=yh (λj=>aH (aV.aw (w':=((f.alloc (.cells bm 210)).setCells f.heap.size 0 G).drewN j) rfl) (aH Bw.size (below_drewN i j)));clear J xx Bw Uq aV Ni i xu;go_wp2_with (refine wpList_store_mid rfl 210 _ _ rfl f.heap.size 0 G.toArray rfl rfl ?h1 ?h2 Gb ?_);case h1=>simpa using ef
 case h2=>simpa using za
 go_quiet (fail);go_wp2;go_ret3;exact⟨f.heap.size,rfl,X.o _⟩
def Np (a:Option Addr) (n c:Nat) (l:List Int) (p:Option Addr) (m d:Nat) (r:List Int) (k:Option Addr) (q x:Nat) (b:List Int) (num:Int) (w:World) (H:Src w a n l) (bo:Src w p m r) (hl:Bytes l) (hr:Bytes r) (kM:n=512/\m=512) (N:Nat) (fB:num=(N:Int)) (vh:1<=N) (XL:N<9223372036854775808) (fK:Src w k q b) (L8:Bytes b) (y:q<=496) (tB:k=none->x=0) (Vr:(am l r).2.1<N) (O:(am l r).1<=1) (F9:(if (am l r).2.1=0 then 0 else 1-(am l r).1)=1):
  Calls prog 146 #[.slice a n c, .slice p m d,iV num, .slice k q x] w λe w'=>∃g,e= .returned (.tuple #[iV 1, .slice (some (aD g 0)) 512 512,iV 0])/\j8 w' 210 g (bh (cG (r.getD 0 0) (r.getD 511 0)) (aS N ++ b))/\w.heap.size<=g/\bW w w':=by
 subst fB;obtain⟨Uo,xV⟩:=kM;subst Uo;subst xV;have Fh:(decide (512=512) && decide (512=512))=true:=rfl;obtain⟨XK,L,Ga⟩:=kF Vr O F9;clear Vr O F9;obtain⟨T,qN,eu,hz,h1,Cx,vf,aW,bV⟩:=MQ (yh fK) fK.1 ji kJ (jr a 512 c l p 512 d r w H bo) H.1 bo.1 (j9 (aT l) (aT r)) (all_oneCell_toArray (cF (bR l ++ bR r)));have rL:(bs (bR l ++ bR r)).length=1024:=by rw [bs,List.length_map,ed,aT,aT]
 obtain⟨F,z⟩:=bQ (bs (bR l ++ bR r));rw [<-z] at h1 aW bV rL;have U:=yh z;clear z H bo fK;go_in;go_wp2_with fail;refine bM h1 λw1 ar=>?_;have bO:(w1.alloc (.cells cT 212)).heap[w1.heap.size]? =some (.cells cT 212 (0,0)):=heap_alloc_new _ _;have ef:=cH bO dg;rw [<-rL] at ef;have bN:bW w (w1.alloc (.cells cT 212)):=ar.alloc ar.size _;have eE:=ar.size;have eR:=bN.trans ((aa.setCells (F:=λj=>j=w1.heap.size) rfl F 0 _).below (λj Z=>by omega) bN.size);have aV:=eJ (l:=bR l ++ bR r) bO (by rw [dg,ed,aT,aT]);rw [<-U.o] at aV;obtain⟨w2,dE⟩:=bQ ((w1.alloc (.cells cT 212)).setCells w1.heap.size 0 F);rw [<-dE] at eR aV;obtain⟨dP,so,fd⟩:=kF eR aV dE;clear h1 bO bN ar eR aV dE;rw [Fh];rw [(gM Cx),(gM vf)] at so;obtain⟨s1,s2⟩:=qQ so.o Cx vf;have Q:=ox w1.heap.size l r w2 s1 s2 hl hr;have xy:=yh s2;clear s1 s2 so;go_wp2_with (refine wpList_store_mid rfl 212 _ _ rfl w1.heap.size 0 F.toArray rfl rfl ?h1 ?h2 bV ?_);case h1=>simpa using ef
 case h2=>simpa using aW
 rw [<-fd.o];refine Q.mono ?_;rintro e K ⟨v,rfl,iS,bF⟩;obtain⟨R,S,hv,hq⟩:=iS;subst hv;have jT:=dP.o.trans (bF.mono dP.o.size);have fw:bW K (K.alloc (.cells #[.int .i64 (((am l r).1:Nat):Int), .int .i64 (((am l r).2.1:Nat):Int), .slice R (am l r).2.2.1.length S] 216)):=(bi _ K).alloc (bS _) _;obtain⟨jU,M,E⟩:=kF (jT.trans (fw.mono jT.size)) ((xy.o.later bF).later fw) (λw'=>Cy (am l r).1 (am l r).2.1 (.slice R (am l r).2.2.1.length S) w' L.o);rw [Ga.o] at E;have ahT:¬(N:Int)<=(((am l r).2.1:Nat):Int):=by have:=XK.o;omega
 clear XK L Ga;clear Q hq bF fd ef aW bV dP jT fw xy;generalize (am l r).1=A at*;generalize (am l r).2.1=B at*;generalize (am l r).2.2.1.length=D at*;go_wp2_with fail;refine(E.out _).mono ?_;rintro e w5 ⟨rfl,fa⟩;obtain⟨jq,Zu⟩:=bU (jU.o.trans (fa.mono jU.o.size)) (M.o.later fa);have s:=Zu.o.2.2 _ rfl 0 (by omega);have u:=Zu.o.2.2 _ rfl 511 (by omega);rw [aN] at s u;have I:=oo w1.heap.size 512 (r.getD 0 0) (r.getD 511 0) w5 s u;have ht:=gu (r.getD 0 0) (r.getD 511 0);obtain⟨t,xp⟩:=bQ (cG (r.getD 0 0) (r.getD 511 0));rw [<-xp] at ht I;have QE:=yh xp;clear E fa jU M s u xp;go_wp2_with fail;refine bM I λw' P=>?_;have eM:=P.symm;subst eM;clear P I;go_wp2_with fail;refine(pP N k q x b w5 XL (T.o.later jq.o) y tB).mono ?_;rintro e w6 ⟨v6,rfl,XH,nE⟩;obtain⟨p6,Y,rfl,Up,_,_⟩:=XH.src;have lx:(aS N ++ b).length=8+q:=by rw [ed,dO,qN]
 rw [lx] at Up⊢;have xu:=yh (jq.o.trans (nE.mono jq.o.size));have J:=ou t p6 (8+q) Y (aS N ++ b) w6 (by omega) Up (by omega) ((iO N).append L8);have jW:(bh t (aS N ++ b)).length=512:=fv (by omega);have za:=i8 (l:=bh t (aS N ++ b)) jW;have Gb:=all_oneCell_toArray (cF (bh t (aS N ++ b)));have DN:(bs (bh t (aS N ++ b))).length=512:=by rw [bs,List.length_map,jW]
 obtain⟨G,C⟩:=bQ (bs (bh t (aS N ++ b)));rw [<-C] at J za Gb DN;have W:=yh C;clear XH nE Up jq C;generalize 8+q=Q8 at*;go_wp2_with fail;refine bM J λf xx=>?_;have Bw:=xu.o.trans (xx.mono xu.o.size);have Uq:(f.alloc (.cells bm 210)).heap[f.heap.size]? =some (.cells bm 210 (0,0)):=heap_alloc_new _ _;have ef:=cH Uq cP;rw [<-DN] at ef;have aV:=eJ (l:=bh t (aS N ++ b)) Uq (by rw [cP,jW]);rw [<-W.o] at aV;have ahU:=Bw.size;have Ni:bW w (f.alloc (.cells bm 210)):=Bw.alloc Bw.size _;have i:=Ni.trans ((aa.setCells (F:=λj=>j=f.heap.size) rfl G 0 _).below (λj Z=>by omega) Ni.size);rw [QE.o] at aV;have X:=yh (λj=>aH (aV.aw (w':=((f.alloc (.cells bm 210)).setCells f.heap.size 0 G).drewN j) rfl) (aH Bw.size (below_drewN i j)));clear J xx Bw Uq aV Ni i xu;go_wp2_with (refine wpList_store_mid rfl 210 _ _ rfl f.heap.size 0 G.toArray rfl rfl ?h1 ?h2 Gb ?_);case h1=>simpa using ef
 case h2=>simpa using za
 go_quiet (fail);go_wp2;go_ret3;exact⟨f.heap.size,rfl,X.o _⟩
def DT (l r:List Int):(am l r).1<=1:=by
 unfold am;split
 .simp
 .split
  .simp
  .split <;> simp
def lD {r:List Int} (b:l.length=512) (c:r.length=512):((am l r).2.2.2=0/\0<(am l r).2.1)\/((am l r).2.2.2=30/\(am l r).2.1=0/\(am l r).1=0):=by
 rw [lV b c];by_cases q:(az l).1=0/\(az r).1=0
 .rw [aG q];exact .inr ⟨rfl,rfl,rfl⟩
 .rw [aB q];by_cases a:(az l).1<(az r).1
  .rw [aG a];exact .inl ⟨rfl,by simp only;omega⟩
  .rw [aB a];exact .inl ⟨rfl,by simp only;omega⟩
def Nq (a:Option Addr) (n c:Nat) (l:List Int) (k:Option Addr) (m d:Nat) (r:List Int) (j:Option Addr) (q o:Nat) (b:List Int) (num:Int) (w:World) (s:Src w a n l) (bo:Src w k m r) (y:Bytes l) (z:Bytes r)
    (fK:Src w j q b) (L8:Bytes b) (tB:j=none->o=0) (D:num<=9223372036854775807):
  Calls prog 146 #[.slice a n c, .slice k m d,iV num, .slice j q o] w λe w'=>∃v,e= .returned (.tuple #[iV (((aP l r num b).1:Nat):Int),v,iV (((aP l r num b).2.2:Nat):Int)])/\xS w' w.heap.size v (aP l r num b).2.1/\bW w w':=by
 obtain⟨Cx,vf,DU⟩:=kE s.1 bo.1 fK.1;by_cases kM:n=512/\m=512
 .by_cases p:num<1
  .refine(Nl a n c l k m d r j q o num w s bo kM p).mono ?_;rintro e w' ⟨rfl,i⟩;have f:aP l r num b=(0, [],1):=(by unfold aP;rw [aB (by omega),aG p]);rw [f];exact⟨_,rfl,xS.nil _ _,i⟩
  .by_cases C:496<q
   .refine(Nm a n c l k m d r j q o num w s bo kM p C).mono ?_;rintro e w' ⟨rfl,i⟩;have f:aP l r num b=(0, [],7):=(by unfold aP;rw [aB (by omega),aB p,aG (by omega)]);rw [f];exact⟨_,rfl,xS.nil _ _,i⟩
   .by_cases t:num<=(((am l r).2.1:Nat):Int)
    .refine(Nn a n c l k m d r j q o num w s bo y z kM p (by omega) t).mono ?_;rintro e w' ⟨rfl,i⟩;have f:aP l r num b=(0, [],31):=(by unfold aP;rw [aB (by omega),aB p,aB (by omega)];simp only;rw [aG t]);rw [f];exact⟨_,rfl,xS.nil _ _,i⟩
    .obtain⟨N,u⟩:∃N:Nat,num=(N:Int):=⟨num.toNat,by omega⟩;have A:=DT l r;have i9:=lD (l:=l) (r:=r) (by omega) (by omega);have qN:(aS N ++ b).length<=504:=(by rw [ed,dO];omega);by_cases yy:(am l r).2.2.2=0/\(am l r).1=0
     .refine(Np a n c l k m d r j q o b num w s bo y z kM N u (by omega) (by omega) fK L8 (by omega) tB (by omega) A (by rw [aB (by omega)];omega)).mono ?_;rintro e w' ⟨g,rfl,aV,x,i⟩;have f:aP l r num b=(1,bh (cG (r.getD 0 0) (r.getD 511 0)) (aS N ++ b),0):=(by unfold aP;rw [aB (by omega),aB p,aB (by omega)];simp only;rw [aB t,aG yy,u,Int.toNat_natCast]);rw [f];have:=aV.lst x;rw [fv qN] at this;exact⟨_,rfl,this,i⟩
     .refine(No a n c l k m d r j q o b num w s bo y z kM N u (by omega) (by omega) fK L8 (by omega) tB (by omega) A (by split <;> omega)).mono ?_;rintro e w' ⟨g,rfl,aV,x,i⟩;have f:aP l r num b=(0,bh (cG (l.getD 0 0) (l.getD 511 0)) (aS N ++ b),0):=(by unfold aP;rw [aB (by omega),aB p,aB (by omega)];simp only;rw [aB t,aB yy,u,Int.toNat_natCast]);rw [f];have:=aV.lst x;rw [fv qN] at this;exact⟨_,rfl,this,i⟩
 .refine(Nk a n c l k m d r j q o num w s bo kM).mono ?_;rintro e w' ⟨rfl,i⟩;have f:aP l r num b=(0, [],2):=by unfold aP;rw [aG (by omega)]
  rw [f];exact⟨_,rfl,xS.nil _ _,i⟩
def qR (a:Option Addr) (n c:Nat) (l:List Int) (f:Option Addr) (m d:Nat) (r:List Int) (k:Option Addr) (q o:Nat) (num:Int) (w:World) (y:Src w a n l) (bo:Src w f m r) (s:Bytes l) (x:Bytes r) (b:Int)
    (h:((am l r).2.2.2=2/\b=2)\/((am l r).2.2.2≠2/\num<1/\b=1)\/((am l r).2.2.2≠2/\¬num<1/\496<q/\b=7)\/((am l r).2.2.2=0/\¬num<1/\¬496<q/\num<=(((am l r).2.1:Nat):Int)/\b=31)):
  Calls prog 159 #[.slice a n c, .slice f m d,iV num, .slice k q o] w λe w'=>e= .returned (.tuple #[iV 0, .slice none 0 0,iV b])/\bW w w':=by
 have i:=mv a n c l f m d r w y bo s x;generalize am l r=T at*;obtain⟨A,B,D,E⟩:=T
 dsimp only at i h
 go_in;go_wp2_with fail;refine i.mono ?_;rintro e w1 ⟨v,rfl,_,ar⟩;have h:=h;rcases h with ⟨rfl,rfl⟩|⟨p,j,rfl⟩|⟨p,j,u,rfl⟩|⟨rfl,j,u,t,rfl⟩
 .go_wp2;go_ret3;exact⟨rfl,ar⟩
 .have g:((E:Int) == 2)=false:=by rw [fJ];omega
  go_wp2;go_ret3;exact⟨rfl,ar⟩
 .have g:((E:Int) == 2)=false:=by rw [fJ];omega
  have Zl:496<(q:Int):=by omega
  go_wp2;go_ret3;exact⟨rfl,ar⟩
 .have Zl:¬496<(q:Int):=by omega
  go_wp2;go_ret3;exact⟨rfl,ar⟩
def JO (b1 z c:Nat) (l:List Int) (b2 L d:Nat) (r:List Int) (U:Option Addr) (q Z:Nat) (a:List Int) (N:Nat) (num:Int) (fB:num=(N:Int)) (w:World) (y:Src w (some (aD b1 z)) 512 l) (bo:Src w (some (aD b2 L)) 512 r) (K:Bytes l) (hr:Bytes r)
    (fK:Src w U q a) (L8:Bytes a) (vh:1<=N) (XL:N<9223372036854775808) (hq:q<=496) (bw:(am l r).2.1<N) (I:¬((am l r).2.2.2=0/\(am l r).1=0)):
  Calls prog 159 #[.slice (some (aD b1 z)) 512 c, .slice (some (aD b2 L)) 512 d,iV num, .slice U q Z] w λe w'=>∃v,e= .returned (.tuple #[iV 0,v,iV 0])/\Own w' w.heap.size v (bh (cG (l.getD 0 0) (l.getD 511 0)) (aS N ++ a))/\bW w w':=by
 have G:=mv (some (aD b1 z)) 512 c l (some (aD b2 L)) 512 d r w y bo K hr;have u:(am l r).2.2.2≠2:=by rcases lD y.1 bo.1 with h|h <;> omega
 obtain⟨S,Zv,C,qN⟩:=cO (yh y) y.1 (yh fK) fK.1;generalize am l r=T at*;obtain⟨A,B,D,E⟩:=T
 dsimp only at G bw I u
 have hE':((E:Int) == 2)=false:=by rw [fJ];omega
 have ahW:¬num<1:=by omega
 have ahX:¬num<=(B:Int):=by omega
 have R:=yh fB;clear fB;have X:=yh I;clear y bo fK I bw u;go_in;go_wp2_with fail;refine G.mono ?_;rintro e w1 ⟨v,rfl,_,ar⟩;have cQ:=yh ar;have dC:=ar.size;clear G ar;by_cases H:E=0
 .subst H;have L9:((A:Int) == 0)=false:=by rw [fJ];have hA:A≠0:=λh=>X.o ⟨rfl,h⟩;omega
  rw [show (((0:Nat)):Int)=0 by rfl];go_wp2;go_loopw [15,16,17] (λv x i wr=>∃k:Nat,k<=8/\i=iV k/\x=iV ((N / 256 ^ k:Nat):Int)/\Own wr w1.heap.size v (bB k N)/\bW w1 wr) (λ_ _ i _=>8-(intOf i).toNat);case atStart=>exact⟨0,dV _,rfl,by rw [R.o];simp,Own.nil _ _,bi _ _⟩
  case round=>
   obtain⟨k,J,rfl,rfl,aA,ev⟩:=hrel;have bt:=yh aA;have b:=yh ev;have g:=ev.size;clear aA ev;by_cases bq:k<8
   .have cC:(k:Int)<8:=(by omega);have s:N / 256 ^ (k+1)=N / 256 ^ k / 256:=(by rw [Nat.div_div_eq_div_mul,Nat.pow_succ]);have n:=i7 k N;rw [show (2:Nat) ^ (8*k)=256 ^ k by rw [Nat.pow_mul]] at n;have hQ:N / 256 ^ k<9223372036854775808:=Nat.lt_of_le_of_lt (Nat.div_le_self _ _) XL;generalize N / 256 ^ k=Q at*;have q1:((Q:Int)).tmod 256=((Q%256:Nat):Int):=(by rw [Int.tmod_eq_emod_of_nonneg (by omega)];omega);have q2:((Q:Int)).tdiv 256=((Q / 256:Nat):Int):=(by rw [Int.tdiv_eq_ediv_of_nonneg (by omega)];omega);have Po:=yh s;have L3:=yh n;have j5:=aK k N;clear s n;go_wp2_with (at_builtin;refine co rfl _ _ rfl w1.heap.size u15 _ _ rfl rfl bt.o ?b1 ?b2 ?_);case b1=>omega
    case b2=>exact g
    intro p w' f eH;have m:Yh (Own w' w1.heap.size p (bB (k+1) N)):=(by rw [L3.o];exact f);have xr:=yh (b.o.trans (eH.mono (bS _)));clear f eH bt b L3;go_wp2;go_roundw;case rel=>exact⟨k+1,by omega,by go_num,by rw [Po.o];simp,m.o,xr.o⟩
    case measure=>simp [intOf];omega
   .have cC:¬(k:Int)<8:=(by omega);obtain rfl:k=8:=(by omega);rw [Vq] at bt;have i6:Yh (Own wr w1.heap.size u15 (aS N ++ a.take 0)):=(by show Own wr w1.heap.size u15 (aS N ++ []);rw [List.append_nil];exact bt.o);clear bt;go_wp2;go_loopw [15,18] (λv i wx=>∃k:Nat,k<=q/\i=iV k/\Own wx w1.heap.size v (aS N ++ a.take k)/\bW w1 wx) (λ_ i _=>q-(intOf i).toNat);case atStart=>exact⟨0,dV _,rfl,i6.o,b.o⟩
    case round=>
     clear i6 b g;obtain⟨k,J,rfl,aA,ev⟩:=hrel;have bt:=yh aA;have b:=yh ev;have g:=ev.size;clear aA ev;have j5:(aS N ++ a.take k).length=8+k:=(by rw [ed,dO,List.length_take];omega);by_cases bq:k<q
     .have cC:(k:Int)<(q:Int):=(by omega);obtain⟨Y,o3,rfl⟩:=cX C.o (by omega);have pf:=C.o.2.2 _ rfl k bq;rw [aN] at pf;have pf:=cell_later (cQ.o.trans (b.o.mono dC)) pf;have Ct:=yh (j7 a k (by omega));generalize a.getD k 0=x at*;go_wp2_with (at_builtin;refine co rfl _ _ rfl w1.heap.size u15 _ x rfl rfl bt.o ?b1 ?b2 ?_);case b1=>omega
      case b2=>exact g
      intro p w' f eH;have m:Yh (Own w' w1.heap.size p (aS N ++ a.take (k+1))):=(by rw [<-Ct.o];first|exact f|(rw [<-List.append_assoc];exact f));have xr:=yh (b.o.trans (eH.mono (bS _)));clear f eH bt b Ct;go_wp2;go_roundw;case rel=>exact⟨k+1,by omega,by go_num,m.o,xr.o⟩
      case measure=>simp [intOf];omega
     .have cC:¬(k:Int)<(q:Int):=(by omega);have t:a.take k=a:=nr (by omega);rw [t] at bt j5;obtain⟨O,P,rfl,si,_,_⟩:=bt.o.src;have QQ:=cQ.o.trans (b.o.mono dC);have Na:(aS N ++ a).length<=504:=(by omega);have j:=qO (some (aD b1 z)) 512 c l O (aS N ++ a).length P (aS N ++ a) wr (S.o.later QQ) si ((iO N).append L8) K;rw [yV Zv Na] at j
      dsimp only at j
      have mh:=yh QQ;clear t si QQ j5 bt b;generalize (aS N ++ a).length=W at*;go_wp2_with fail;refine j.mono ?_;rintro e w5 ⟨M,rfl,Bv,fa⟩;have F:=yh (aH (Own.down Bv mh.o.size) (mh.o.trans (fa.mono mh.o.size)));clear j Bv fa;go_wp2;go_ret3;exact⟨M,rfl,F.o⟩
 .have aon:((E:Int) == 0)=false:=by rw [fJ];omega
  go_wp2;go_loopw [15,16,17] (λv x i wr=>∃k:Nat,k<=8/\i=iV k/\x=iV ((N / 256 ^ k:Nat):Int)/\Own wr w1.heap.size v (bB k N)/\bW w1 wr) (λ_ _ i _=>8-(intOf i).toNat);case atStart=>exact⟨0,dV _,rfl,by rw [R.o];simp,Own.nil _ _,bi _ _⟩
  case round=>
   obtain⟨k,J,rfl,rfl,aA,ev⟩:=hrel;have bt:=yh aA;have b:=yh ev;have g:=ev.size;clear aA ev;by_cases bq:k<8
   .have cC:(k:Int)<8:=(by omega);have s:N / 256 ^ (k+1)=N / 256 ^ k / 256:=(by rw [Nat.div_div_eq_div_mul,Nat.pow_succ]);have n:=i7 k N;rw [show (2:Nat) ^ (8*k)=256 ^ k by rw [Nat.pow_mul]] at n;have hQ:N / 256 ^ k<9223372036854775808:=Nat.lt_of_le_of_lt (Nat.div_le_self _ _) XL;generalize N / 256 ^ k=Q at*;have q1:((Q:Int)).tmod 256=((Q%256:Nat):Int):=(by rw [Int.tmod_eq_emod_of_nonneg (by omega)];omega);have q2:((Q:Int)).tdiv 256=((Q / 256:Nat):Int):=(by rw [Int.tdiv_eq_ediv_of_nonneg (by omega)];omega);have Po:=yh s;have L3:=yh n;have j5:=aK k N;clear s n;go_wp2_with (at_builtin;refine co rfl _ _ rfl w1.heap.size u15 _ _ rfl rfl bt.o ?b1 ?b2 ?_);case b1=>omega
    case b2=>exact g
    intro p w' f eH;have m:Yh (Own w' w1.heap.size p (bB (k+1) N)):=(by rw [L3.o];exact f);have xr:=yh (b.o.trans (eH.mono (bS _)));clear f eH bt b L3;go_wp2;go_roundw;case rel=>exact⟨k+1,by omega,by go_num,by rw [Po.o];simp,m.o,xr.o⟩
    case measure=>simp [intOf];omega
   .have cC:¬(k:Int)<8:=(by omega);obtain rfl:k=8:=(by omega);rw [Vq] at bt;have i6:Yh (Own wr w1.heap.size u15 (aS N ++ a.take 0)):=(by show Own wr w1.heap.size u15 (aS N ++ []);rw [List.append_nil];exact bt.o);clear bt;go_wp2;go_loopw [15,18] (λv i wx=>∃k:Nat,k<=q/\i=iV k/\Own wx w1.heap.size v (aS N ++ a.take k)/\bW w1 wx) (λ_ i _=>q-(intOf i).toNat);case atStart=>exact⟨0,dV _,rfl,i6.o,b.o⟩
    case round=>
     clear i6 b g;obtain⟨k,J,rfl,aA,ev⟩:=hrel;have bt:=yh aA;have b:=yh ev;have g:=ev.size;clear aA ev;have j5:(aS N ++ a.take k).length=8+k:=(by rw [ed,dO,List.length_take];omega);by_cases bq:k<q
     .have cC:(k:Int)<(q:Int):=(by omega);obtain⟨Y,o3,rfl⟩:=cX C.o (by omega);have pf:=C.o.2.2 _ rfl k bq;rw [aN] at pf;have pf:=cell_later (cQ.o.trans (b.o.mono dC)) pf;have Ct:=yh (j7 a k (by omega));generalize a.getD k 0=x at*;go_wp2_with (at_builtin;refine co rfl _ _ rfl w1.heap.size u15 _ x rfl rfl bt.o ?b1 ?b2 ?_);case b1=>omega
      case b2=>exact g
      intro p w' f eH;have m:Yh (Own w' w1.heap.size p (aS N ++ a.take (k+1))):=(by rw [<-Ct.o];first|exact f|(rw [<-List.append_assoc];exact f));have xr:=yh (b.o.trans (eH.mono (bS _)));clear f eH bt b Ct;go_wp2;go_roundw;case rel=>exact⟨k+1,by omega,by go_num,m.o,xr.o⟩
      case measure=>simp [intOf];omega
     .have cC:¬(k:Int)<(q:Int):=(by omega);have t:a.take k=a:=nr (by omega);rw [t] at bt j5;obtain⟨O,P,rfl,si,_,_⟩:=bt.o.src;have QQ:=cQ.o.trans (b.o.mono dC);have Na:(aS N ++ a).length<=504:=(by omega);have j:=qO (some (aD b1 z)) 512 c l O (aS N ++ a).length P (aS N ++ a) wr (S.o.later QQ) si ((iO N).append L8) K;rw [yV Zv Na] at j
      dsimp only at j
      have mh:=yh QQ;clear t si QQ j5 bt b;generalize (aS N ++ a).length=W at*;go_wp2_with fail;refine j.mono ?_;rintro e w5 ⟨M,rfl,Bv,fa⟩;have F:=yh (aH (Own.down Bv mh.o.size) (mh.o.trans (fa.mono mh.o.size)));clear j Bv fa;go_wp2;go_ret3;exact⟨M,rfl,F.o⟩
def JP (b1 C c:Nat) (l:List Int) (b2 p d:Nat) (r:List Int) (I:Option Addr) (q R:Nat) (a:List Int) (N:Nat) (num:Int) (fB:num=(N:Int)) (w:World) (z:Src w (some (aD b1 C)) 512 l) (bo:Src w (some (aD b2 p)) 512 r) (W:Bytes l) (L:Bytes r)
    (fK:Src w I q a) (L8:Bytes a) (vh:1<=N) (XL:N<9223372036854775808) (hq:q<=496) (bw:(am l r).2.1<N) (y:(am l r).2.2.2=0/\(am l r).1=0):
  Calls prog 159 #[.slice (some (aD b1 C)) 512 c, .slice (some (aD b2 p)) 512 d,iV num, .slice I q R] w λe w'=>∃v,e= .returned (.tuple #[iV 1,v,iV 0])/\Own w' w.heap.size v (bh (cG (r.getD 0 0) (r.getD 511 0)) (aS N ++ a))/\bW w w':=by
 have u:=mv (some (aD b1 C)) 512 c l (some (aD b2 p)) 512 d r w z bo W L;have j:(am l r).2.2.2≠2:=by rcases lD z.1 bo.1 with h|h <;> omega
 obtain⟨P,Zv,G,qN⟩:=cO (yh bo) bo.1 (yh fK) fK.1;generalize am l r=T at*;obtain⟨A,B,D,E⟩:=T
 dsimp only at u bw y j
 have S:((E:Int) == 2)=false:=by rw [fJ];omega
 have ahW:¬num<1:=by omega
 have ahX:¬num<=(B:Int):=by omega
 have O:=yh fB;clear fB;have H:=yh y;clear z bo fK y bw j;go_in;go_wp2_with fail;refine u.mono ?_;rintro e w1 ⟨v,rfl,_,ar⟩;have cQ:=yh ar;have dC:=ar.size;clear u ar;by_cases g:E=0
 .subst g;have L9:=H.o.2;subst L9;rw [show (((0:Nat)):Int)=0 by rfl];go_wp2;go_loopw [15,16,17] (λv x i wr=>∃k:Nat,k<=8/\i=iV k/\x=iV ((N / 256 ^ k:Nat):Int)/\Own wr w1.heap.size v (bB k N)/\bW w1 wr) (λ_ _ i _=>8-(intOf i).toNat);case atStart=>exact⟨0,dV _,rfl,by rw [O.o];simp,Own.nil _ _,bi _ _⟩
  case round=>
   obtain⟨k,U,rfl,rfl,aA,ev⟩:=hrel;have bt:=yh aA;have b:=yh ev;have m:=ev.size;clear aA ev;by_cases bq:k<8
   .have cC:(k:Int)<8:=(by omega);have J:N / 256 ^ (k+1)=N / 256 ^ k / 256:=(by rw [Nat.div_div_eq_div_mul,Nat.pow_succ]);have t:=i7 k N;rw [show (2:Nat) ^ (8*k)=256 ^ k by rw [Nat.pow_mul]] at t;have hQ:N / 256 ^ k<9223372036854775808:=Nat.lt_of_le_of_lt (Nat.div_le_self _ _) XL;generalize N / 256 ^ k=Q at*;have q1:((Q:Int)).tmod 256=((Q%256:Nat):Int):=(by rw [Int.tmod_eq_emod_of_nonneg (by omega)];omega);have q2:((Q:Int)).tdiv 256=((Q / 256:Nat):Int):=(by rw [Int.tdiv_eq_ediv_of_nonneg (by omega)];omega);have Po:=yh J;have L3:=yh t;have j5:=aK k N;clear J t;go_wp2_with (at_builtin;refine co rfl _ _ rfl w1.heap.size u15 _ _ rfl rfl bt.o ?b1 ?b2 ?_);case b1=>omega
    case b2=>exact m
    intro F w' f eH;have s:Yh (Own w' w1.heap.size F (bB (k+1) N)):=(by rw [L3.o];exact f);have xr:=yh (b.o.trans (eH.mono (bS _)));clear f eH bt b L3;go_wp2;go_roundw;case rel=>exact⟨k+1,by omega,by go_num,by rw [Po.o];simp,s.o,xr.o⟩
    case measure=>simp [intOf];omega
   .have cC:¬(k:Int)<8:=(by omega);obtain rfl:k=8:=(by omega);rw [Vq] at bt;have i6:Yh (Own wr w1.heap.size u15 (aS N ++ a.take 0)):=(by show Own wr w1.heap.size u15 (aS N ++ []);rw [List.append_nil];exact bt.o);clear bt;go_wp2;go_loopw [15,18] (λv i wx=>∃k:Nat,k<=q/\i=iV k/\Own wx w1.heap.size v (aS N ++ a.take k)/\bW w1 wx) (λ_ i _=>q-(intOf i).toNat);case atStart=>exact⟨0,dV _,rfl,i6.o,b.o⟩
    case round=>
     clear i6 b m;obtain⟨k,U,rfl,aA,ev⟩:=hrel;have bt:=yh aA;have b:=yh ev;have m:=ev.size;clear aA ev;have j5:(aS N ++ a.take k).length=8+k:=(by rw [ed,dO,List.length_take];omega);by_cases bq:k<q
     .have cC:(k:Int)<(q:Int):=(by omega);obtain⟨b3,o3,rfl⟩:=cX G.o (by omega);have pf:=G.o.2.2 _ rfl k bq;rw [aN] at pf;have pf:=cell_later (cQ.o.trans (b.o.mono dC)) pf;have Ct:=yh (j7 a k (by omega));generalize a.getD k 0=x at*;go_wp2_with (at_builtin;refine co rfl _ _ rfl w1.heap.size u15 _ x rfl rfl bt.o ?b1 ?b2 ?_);case b1=>omega
      case b2=>exact m
      intro F w' f eH;have s:Yh (Own w' w1.heap.size F (aS N ++ a.take (k+1))):=(by rw [<-Ct.o];first|exact f|(rw [<-List.append_assoc];exact f));have xr:=yh (b.o.trans (eH.mono (bS _)));clear f eH bt b Ct;go_wp2;go_roundw;case rel=>exact⟨k+1,by omega,by go_num,s.o,xr.o⟩
      case measure=>simp [intOf];omega
     .have cC:¬(k:Int)<(q:Int):=(by omega);have K:a.take k=a:=nr (by omega);rw [K] at bt j5;obtain⟨Y,Z,rfl,si,_,_⟩:=bt.o.src;have QQ:=cQ.o.trans (b.o.mono dC);have Na:(aS N ++ a).length<=504:=(by omega);have n:=qO (some (aD b2 p)) 512 d r Y (aS N ++ a).length Z (aS N ++ a) wr (P.o.later QQ) si ((iO N).append L8) L;rw [yV Zv Na] at n
      dsimp only at n
      have mh:=yh QQ;clear K si QQ j5 bt b;generalize (aS N ++ a).length=BL at*;go_wp2_with fail;refine n.mono ?_;rintro e w5 ⟨X,rfl,Bv,fa⟩;have M:=yh (aH (Own.down Bv mh.o.size) (mh.o.trans (fa.mono mh.o.size)));clear n Bv fa;go_wp2;go_ret3;exact⟨X,rfl,M.o⟩
 .exact absurd H.o.1 g
def JQ (a:Option Addr) (n c:Nat) (l:List Int) (p:Option Addr) (m d:Nat) (r:List Int) (g:Option Addr) (q k:Nat) (b:List Int) (num:Int) (w:World) (j:Src w a n l) (bo:Src w p m r) (s:Bytes l) (t:Bytes r)
    (fK:Src w g q b) (L8:Bytes b) (F:num<=9223372036854775807):
  Calls prog 159 #[.slice a n c, .slice p m d,iV num, .slice g q k] w λe w'=>∃v,e= .returned (.tuple #[iV (((aP l r num b).1:Nat):Int),v,iV (((aP l r num b).2.2:Nat):Int)])/\Own w' w.heap.size v (aP l r num b).2.1/\bW w w':=by
 obtain⟨Cx,vf,DU⟩:=kE j.1 bo.1 fK.1;by_cases kM:n=512/\m=512
 .have i9:=lD (l:=l) (r:=r) (by omega) (by omega);by_cases i:num<1
  .refine(qR a n c l p m d r g q k num w j bo s t 1 (.inr (.inl ⟨by omega,i,rfl⟩))).mono ?_;rintro e w' ⟨rfl,o⟩;have f:aP l r num b=(0, [],1):=(by unfold aP;rw [aB (by omega),aG i]);rw [f];exact⟨_,rfl,Own.nil _ _,o⟩
  .by_cases A:496<q
   .refine(qR a n c l p m d r g q k num w j bo s t 7 (.inr (.inr (.inl ⟨by omega,i,A,rfl⟩)))).mono ?_;rintro e w' ⟨rfl,o⟩;have f:aP l r num b=(0, [],7):=(by unfold aP;rw [aB (by omega),aB i,aG (by omega)]);rw [f];exact⟨_,rfl,Own.nil _ _,o⟩
   .by_cases u:num<=(((am l r).2.1:Nat):Int)
    .refine(qR a n c l p m d r g q k num w j bo s t 31 (.inr (.inr (.inr ⟨by omega,i,A,u,rfl⟩)))).mono ?_;rintro e w' ⟨rfl,o⟩;have f:aP l r num b=(0, [],31):=(by unfold aP;rw [aB (by omega),aB i,aB (by omega)];simp only;rw [aG u]);rw [f];exact⟨_,rfl,Own.nil _ _,o⟩
    .obtain⟨N,x⟩:∃N:Nat,num=(N:Int):=⟨num.toNat,by omega⟩;obtain⟨rfl,rfl⟩:=kM;obtain⟨y,C,rfl⟩:=cX j (by omega);obtain⟨z,D,rfl⟩:=cX bo (by omega);by_cases yy:(am l r).2.2.2=0/\(am l r).1=0
     .have f:aP l r num b=(1,bh (cG (r.getD 0 0) (r.getD 511 0)) (aS N ++ b),0):=(by unfold aP;rw [aB (by omega),aB i,aB (by omega)];simp only;rw [aB u,aG yy,x,Int.toNat_natCast]);rw [f];exact JP y C c l z D d r g q k b N num x w j bo s t fK L8 (by omega) (by omega) (by omega) (by omega) yy
     .have f:aP l r num b=(0,bh (cG (l.getD 0 0) (l.getD 511 0)) (aS N ++ b),0):=(by unfold aP;rw [aB (by omega),aB i,aB (by omega)];simp only;rw [aB u,aB yy,x,Int.toNat_natCast]);rw [f];exact JO y C c l z D d r g q k b N num x w j bo s t fK L8 (by omega) (by omega) (by omega) (by omega) yy
 .have E:am l r=(0,0, [],2):=by unfold am;rw [aG (by omega)]
  refine(qR a n c l p m d r g q k num w j bo s t 2 (.inl ⟨by rw [E],rfl⟩)).mono ?_;rintro e w' ⟨rfl,o⟩;have f:aP l r num b=(0, [],2):=by unfold aP;rw [aG (by omega)]
  rw [f];exact⟨_,rfl,Own.nil _ _,o⟩
def rN (l r:List Int):(am l r).2.1<=9223372036854775807:=by
 have a:=ky l;have b:=ky r;unfold am;split
 .simp
 .split
  .simp
  .split <;> simp only <;> omega
def Vs (s:Nat) (x:Int) (h:S.fuse=0):S.rd s x=(3,S, []):=aG h
def QR (h:S.fuse≠0) (a:k<s):S.rd s (k:Int)=(0,S.read,S.now k):=by
 unfold DS.rd;rw [aB h,aB (by omega)];simp
def Out.low {lo b:Nat} {v:Value} (h:Out lo w l v) (g:b<=lo):Out b w l v:=by
 obtain⟨a,c,rfl,d,f⟩:=h;exact⟨a,c,rfl,d,λx e=>j3 g (f x e)⟩
def aa.boxed (F:Nat->Prop) (o:Obj):aa F w (w.alloc o):=aa.alloc F w o
def Nr (h:aQ w F p s S) (f n:Int) (aU:S.puts.length+1<=4000000000000) (b:S.fuse=0):
  Calls prog 145 #[kG p f n] w λe w'=>e= .returned (.tuple #[.slice none 0 0, .slice none 0 0,iV 3])/\aQ w' F p s S/\aa F w w':=by
 have a:=tD (h.boxed (.cells #[.pointer (some ⟨p,0,none⟩), .int .i64 f, .int .i64 n] 141)) f aU;rw [Vs _ _ b] at a;go_in;go_wp2_with fail;refine a.mono ?_;rintro e w1 ⟨v,rfl,_,hd,c⟩;go_wp2;go_ret3;exact⟨rfl,hd,(aa.boxed (w:=w) F (.cells #[.pointer (some ⟨p,0,none⟩), .int .i64 f, .int .i64 n] 141)).trans c (λ_ h=> .inl h)⟩
def zb {o:Obj} (b:∀k,F k->k<w.heap.size) (a:aa F (w.alloc o) w1):w1.heap[w.heap.size]? =some o:=by
 rw [a.block w.heap.size (by simp) (λh=>by have:=b _ h;omega)];exact heap_alloc_new _ _
def Ma (h:aQ w F p s S) (f:Nat) (n:Int) (aU:S.puts.length+1<=4000000000000) (l:S.fuse≠0) (o:f+1<s):
  Calls prog 145 #[kG p f n] w λe w'=>∃v1 c,e= .returned (.tuple #[v1,c,iV 0])/\Out w.heap.size w' (S.now f) v1/\Out w.heap.size w' (S.now (f+1)) c/\aQ w' F p s S.read.read/\aa F w w':=by
 have i:=tD (h.boxed (.cells #[.pointer (some ⟨p,0,none⟩), .int .i64 f, .int .i64 n] 141)) f aU;rw [QR l (by omega)] at i;have bo:=h.ok.hi;have g:=h.lt;go_in;go_wp2_with fail;refine i.mono ?_;rintro e w1 ⟨v,rfl,m,hd,a⟩;have dH:=zb g a;have Jp:=aM dH;have A4:=bG dH;have j:=tD hd ((f+1:Nat):Int) (by simpa [DS.read] using aU);rw [QR (S:=S.read) l o] at j;have d:=((aa.boxed (w:=w) F (.cells #[.pointer (some ⟨p,0,none⟩), .int .i64 f, .int .i64 n] 141)).trans a (λ_ h=> .inl h));go_wp2_with fail;refine j.mono ?_;rintro e q ⟨c,rfl,jv,cI,aY⟩;have b:=(m.keeps aY (λk a=>by have:=g k a;simp;omega));go_wp2;go_ret3;exact⟨_,_,rfl,b.low (by simp),jv.low d.size,cI,d.trans aY (λ_ h=> .inl h)⟩
def ik (l r:List Int):Nat×Nat×Nat:=
 if (am l r).2.2.2≠0\/0<(am l r).2.2.1.length\/(am l r).2.1 / 4294967296<1\/1073741824<(am l r).2.1 / 4294967296\/1073741824<(am l r).2.1%4294967296 then (0,0,6)
 else ((am l r).2.1 / 4294967296,(am l r).2.1%4294967296,0)
def Ns (a:Nat) (d:a<9223372036854775808):bits .and .i64 (a:Int) 4294967295=((a%4294967296:Nat):Int):=by
 have b:(BitVec.ofInt 64 (a:Int)).toNat=a:=by rw [BitVec.ofInt_natCast,BitVec.toNat_ofNat];exact Nat.mod_eq_of_lt (by omega)
 have c:(BitVec.ofInt 64 (4294967295:Int)).toNat=2 ^ 32-1:=by decide
 show IntKind.i64.wrap ((BitVec.ofInt 64 (a:Int) &&& BitVec.ofInt 64 (4294967295:Int)).toNat:Int)=_;rw [BitVec.toNat_and,b,c,IntKind.wrap_i64,Nat.and_two_pow_sub_one_eq_mod];omega
def JR (h:aQ w F p s S) (f:Nat) (n:Int) (aU:S.puts.length+1<=4000000000000) (A:S.fuse≠0) (C:f+1<s) (ar:Bytes (S.now f)) (bd:Bytes (S.now (f+1))):
  Calls prog 150 #[kG p f n] w λe w'=>e= .returned (.tuple #[iV ((ik (S.now f) (S.now (f+1))).1:Int),iV ((ik (S.now f) (S.now (f+1))).2.1:Int),iV ((ik (S.now f) (S.now (f+1))).2.2:Int)])/\aQ w' F p s S.read.read/\aa F w w':=by
 have m:=aa.boxed (w:=w) F (.cells #[.pointer (some ⟨p,0,none⟩), .int .i64 f, .int .i64 n] 141);have k:=Ma (h.boxed (.cells #[.pointer (some ⟨p,0,none⟩), .int .i64 f, .int .i64 n] 141)) f n aU A C;have L:=rN (l:=S.now f) (r:=S.now (f+1));have o:=λb H d c I g w1 eh bo=>F6 b H d (S.now f) c I g (S.now (f+1)) w1 eh bo ar bd;unfold ik;generalize (am (S.now f) (S.now (f+1))).2.1=N at*;generalize (am (S.now f) (S.now (f+1))).2.2.2=E at*;generalize (am (S.now f) (S.now (f+1))).2.2.1=D at*;generalize (am (S.now f) (S.now (f+1))).1=K at*;have G:(N:Int) / 4294967296=((N / 4294967296:Nat):Int):=by omega
 have z:=Ns N (by omega);have J:N%4294967296<4294967296:=Nat.mod_lt _ (by omega);have O:N / 4294967296<2147483648:=by omega
 generalize N / 4294967296=Q at*;generalize N%4294967296=M at*;by_cases P:E≠0
 .rw [aG (by omega)];go_in;go_wp2_with fail;refine k.mono ?_;rintro e w1 ⟨u,x,rfl,tG,jv,hd,j⟩;obtain⟨b,d,rfl,eh,_⟩:=tG;obtain⟨c,g,rfl,bo,_⟩:=jv;have i:=(m.trans j (λ_ h=> .inl h));go_wp2_with fail;refine(o b _ d c _ g w1 eh bo).mono ?_;rintro e y ⟨v,rfl,⟨q,t,rfl,_,_,_⟩,a⟩;have sq:=(hd.aw (aa.ah (λ_=>False) a) (λ_ _ h=>h));go_wp2;go_ret3;exact⟨rfl,sq,i.trans (aa.ah (λ_=>False) a) (λ_ h=>h.elim)⟩
 .obtain rfl:E=0:=by omega
  by_cases R:0<D.length
  .rw [aG (by omega)];go_in;go_wp2_with fail;refine k.mono ?_;rintro e w1 ⟨u,x,rfl,tG,jv,hd,j⟩;obtain⟨b,d,rfl,eh,_⟩:=tG;obtain⟨c,g,rfl,bo,_⟩:=jv;have i:=(m.trans j (λ_ h=> .inl h));go_wp2_with fail;refine(o b _ d c _ g w1 eh bo).mono ?_;rintro e y ⟨v,rfl,⟨q,t,rfl,_,_,_⟩,a⟩;have sq:=(hd.aw (aa.ah (λ_=>False) a) (λ_ _ h=>h));go_wp2;go_ret3;exact⟨rfl,sq,i.trans (aa.ah (λ_=>False) a) (λ_ h=>h.elim)⟩
  .obtain rfl:D= []:=List.length_eq_zero_iff.mp (by omega);by_cases T:Q<1
   .rw [aG (by omega)];obtain rfl:Q=0:=(by omega);go_in;go_wp2_with fail;refine k.mono ?_;rintro e w1 ⟨u,x,rfl,tG,jv,hd,j⟩;obtain⟨b,d,rfl,eh,_⟩:=tG;obtain⟨c,g,rfl,bo,_⟩:=jv;have i:=(m.trans j (λ_ h=> .inl h));go_wp2_with fail;refine(o b _ d c _ g w1 eh bo).mono ?_;rintro e y ⟨v,rfl,⟨q,t,rfl,_,_,_⟩,a⟩;have sq:=(hd.aw (aa.ah (λ_=>False) a) (λ_ _ h=>h));go_wp2;go_ret3;exact⟨rfl,sq,i.trans (aa.ah (λ_=>False) a) (λ_ h=>h.elim)⟩
   .skip
    by_cases U:1073741824<Q
    .rw [aG (by omega)];go_in;go_wp2_with fail;refine k.mono ?_;rintro e w1 ⟨u,x,rfl,tG,jv,hd,j⟩;obtain⟨b,d,rfl,eh,_⟩:=tG;obtain⟨c,g,rfl,bo,_⟩:=jv;have i:=(m.trans j (λ_ h=> .inl h));go_wp2_with fail;refine(o b _ d c _ g w1 eh bo).mono ?_;rintro e y ⟨v,rfl,⟨q,t,rfl,_,_,_⟩,a⟩;have sq:=(hd.aw (aa.ah (λ_=>False) a) (λ_ _ h=>h));go_wp2;go_ret3;exact⟨rfl,sq,i.trans (aa.ah (λ_=>False) a) (λ_ h=>h.elim)⟩
    .skip
     by_cases W:1073741824<M
     .rw [aG (by omega)];go_in;go_wp2_with fail;refine k.mono ?_;rintro e w1 ⟨u,x,rfl,tG,jv,hd,j⟩;obtain⟨b,d,rfl,eh,_⟩:=tG;obtain⟨c,g,rfl,bo,_⟩:=jv;have i:=(m.trans j (λ_ h=> .inl h));go_wp2_with fail;refine(o b _ d c _ g w1 eh bo).mono ?_;rintro e y ⟨v,rfl,⟨q,t,rfl,_,_,_⟩,a⟩;have sq:=(hd.aw (aa.ah (λ_=>False) a) (λ_ _ h=>h));go_wp2;go_ret3;exact⟨rfl,sq,i.trans (aa.ah (λ_=>False) a) (λ_ h=>h.elim)⟩
     .skip
      rw [aB (by simp;omega)];go_in;go_wp2_with fail;refine k.mono ?_;rintro e w1 ⟨u,x,rfl,tG,jv,hd,j⟩;obtain⟨b,d,rfl,eh,_⟩:=tG;obtain⟨c,g,rfl,bo,_⟩:=jv;have i:=(m.trans j (λ_ h=> .inl h));go_wp2_with fail;refine(o b _ d c _ g w1 eh bo).mono ?_;rintro e y ⟨v,rfl,⟨q,t,rfl,_,_,_⟩,a⟩;have sq:=(hd.aw (aa.ah (λ_=>False) a) (λ_ _ h=>h));go_wp2;go_ret3;exact⟨rfl,sq,i.trans (aa.ah (λ_=>False) a) (λ_ h=>h.elim)⟩
def zc (S:DS) (s f:Nat) (num:Int):Int×DS:=
 let R:=aP (S.now f) (S.now (f+1)) num []
 if R.2.2≠0 then ((R.2.2:Int),S.read.read) else
 let W:=S.read.read.wr s ((f:Int)+(R.1:Int)) 512 R.2.1
 if W.1≠0 then W else W.2.fl s
def aq {b:Nat} {o:Obj} (h:w.heap[b]? =some o):b<w.heap.size:=by
 rcases Nat.lt_or_ge b w.heap.size with a|a
 .exact a
 .rw [Array.getElem?_eq_none a] at h;cases h
def ze {b:World} (e:∀k,F k->k<w.heap.size) (c:aa F w w2) (d:aa F w2 w3) (i:w3.heap.size<=b.heap.size) (h:aQ b (more F w2 w3) p s S):aQ b (more F w b) p s S:=by
 have f:=c.size;have g:=d.size;refine h.mono (λk a=>?_) (λk a=>?_)
 .rcases a with a|a
  .exact .inl a
  .exact .inr ⟨by omega,by omega⟩
 .rcases a with a|a
  .have:=e k a;omega
  .exact a.2
def Nt (c:∀k,F k->k<w.heap.size) (a:aa F w w2) (b:aa F w2 w3) (h:aQ w3 (more F w2 w3) p s S):aQ w3 (more F w w3) p s S:=
 ze c a b (bS _) h
def kN (l r:List Int) (num:Int) (a:List Int) (h0:(aP l r num a).2.2=0):(aP l r num a).2.1.length=512:=by
 have h:∀(t:Int) (N:Nat),a.length<=496->(bh t (aS N ++ a)).length=512:=λt N hd=>by rw [fv (by rw [ed,dO];omega)]
 revert h0;unfold aP;split
 .intro h0;cases h0
 .split
  .intro h0;cases h0
  .split
   .intro h0;cases h0
   .dsimp only
    split
    .intro h0;cases h0
    .split
     .intro _;exact h _ _ (by omega)
     .intro _;exact h _ _ (by omega)
def fU (l r:List Int) (num:Int) (a:List Int):(aP l r num a).1<=1:=by
 unfold aP;split
 .exact dV _
 .split
  .exact dV _
  .split
   .exact dV _
   .dsimp only
    split
    .exact dV _
    .split
     .exact bS _
     .exact dV _
def Nu (h:aQ w F p s S) (f:Nat) (n:Int) (E T:Nat) (hE:E<=1073741824) (hT:T<=1073741824) (aU:S.puts.length+2<=4000000000000) (hf:S.fuse≠0) (hs:f+1<s) (ar:Bytes (S.now f)) (bd:Bytes (S.now (f+1))):
  Calls prog 99 #[kG p f n,iV (E:Int),iV (T:Int)] w λe w'=>e= .returned (iV (zc S s f ((E:Int)*4294967296+T)).1)/\aQ w' (more F w w') p s (zc S s f ((E:Int)*4294967296+T)).2/\aa F w w':=by
 obtain⟨u,bo,A,M⟩:=cO (Ma (h.boxed (.cells #[.pointer (some ⟨p,0,none⟩), .int .i64 f, .int .i64 n] 141)) f n (by omega) hf hs) h.ok.hi (yh h.lt) (yh (aa.boxed (w:=w) F (.cells #[.pointer (some ⟨p,0,none⟩), .int .i64 f, .int .i64 n] 141)));have i:=λl n1 q m n2 r w1 eh bo=>Nq l n1 q (S.now f) m n2 r (S.now (f+1)) none 0 0 [] ((E:Int)*4294967296+T) w1 eh bo ar bd ⟨rfl,λ_=>rfl,λx U=>by cases U⟩ (by intro x U;cases U) (λ_=>rfl) (by omega);have mR:=fU (S.now f) (S.now (f+1)) ((E:Int)*4294967296+T) [];have Cx:=kN (S.now f) (S.now (f+1)) ((E:Int)*4294967296+T) [];unfold zc;clear h hf ar bd;obtain⟨R,P⟩:∃R,R=aP (S.now f) (S.now (f+1)) ((E:Int)*4294967296+T) []:=⟨_,rfl⟩;rw [<-P] at mR Cx⊢;simp only [<-P] at i;clear P;obtain⟨K,L,X⟩:=R;simp only at mR Cx i⊢;by_cases W:X≠0
 .rw [aG W];have d0:((X:Int) == 0)=false:=by rw [fJ];omega
  go_in;go_wp2_with fail;refine u.mono ?_;rintro e w1 ⟨v1,v2,rfl,tG,jv,hd,d⟩;obtain⟨l,q,rfl,eh,_⟩:=tG;obtain⟨m,r,rfl,bo,_⟩:=jv;have g:=i l _ q m _ r w1 eh bo;have y:=yh hd;have z:=yh (M.o.trans d (λ_ h=> .inl h));clear u eh bo hd d i;go_wp2_with fail;refine g.mono ?_;rintro e w2 ⟨v,rfl,⟨I,J,rfl,_,_,_⟩,c⟩;obtain⟨sq,ig⟩:=bU (y.o.aw (aa.ah (λ_=>False) c) (λ_ _ h=>h)) (z.o.trans (aa.ah (λ_=>False) c) (λ_ h=>h.elim));clear g c;go_wp2;go_ret;exact⟨rfl,sq.o.more,ig.o⟩
 .obtain rfl:X=0:=by omega
  rw [aB W];clear W;have b:=Cx rfl;clear Cx;obtain⟨Y,Q⟩:∃Y,Y=(S.read.read.wr s ((f:Int)+(K:Int)) 512 L):=⟨_,rfl⟩;rw [<-Q];have O:=yh Q;clear Q;by_cases G:Y.1≠0
  .rw [aG G];go_in;go_wp2_with fail;refine u.mono ?_;rintro e w1 ⟨v1,v2,rfl,tG,jv,hd,d⟩;obtain⟨l,q,rfl,eh,_⟩:=tG;obtain⟨m,r,rfl,bo,_⟩:=jv;have g:=i l _ q m _ r w1 eh bo;have dH:=zb A.o d;have z:=yh (M.o.trans d (λ_ h=> .inl h));have y:=yh hd;have C:=yh dH;clear u eh bo hd d i dH;go_wp2_with fail;refine g.mono ?_;rintro e w2 ⟨v,rfl,⟨I,J,rfl,fK,_,_⟩,c⟩;have cI:=y.o.aw (aa.ah (λ_=>False) c) (λ_ _ h=>h);have ig:=yh (z.o.trans (aa.ah (λ_=>False) c) (λ_ h=>h.elim));have dH:=(c.block _ (aq C.o)).trans C.o;have Jp:=aM dH;have A4:=bG dH;have t:=vd cI ((f:Int)+(K:Int)) I _ J L fK (by simpa [DS.read] using (show S.puts.length+1<=4000000000000 by omega));rw [b] at t;have k:=yh dH;clear g c cI fK dH;rw [b];go_wp2_with fail;refine fR t λw3 a aZ=>?_;have lO:=yh (ig.o.trans aZ (λ_ h=> .inl h));rw [<-O.o] at a⊢;have Vt:=yh (Nt A.o ig.o aZ a);have d1:(Y.1 == 0)=false:=(by rw [fJ];exact G);clear a aZ t;go_wp2;go_ret;exact⟨rfl,Vt.o,lO.o⟩
  .rw [aB G];go_in;go_wp2_with fail;refine u.mono ?_;rintro e w1 ⟨v1,v2,rfl,tG,jv,hd,d⟩;obtain⟨l,q,rfl,eh,_⟩:=tG;obtain⟨m,r,rfl,bo,_⟩:=jv;have g:=i l _ q m _ r w1 eh bo;have dH:=zb A.o d;have z:=yh (M.o.trans d (λ_ h=> .inl h));have y:=yh hd;have C:=yh dH;clear u eh bo hd d i dH;go_wp2_with fail;refine g.mono ?_;rintro e w2 ⟨v,rfl,⟨I,J,rfl,fK,_,_⟩,c⟩;have cI:=y.o.aw (aa.ah (λ_=>False) c) (λ_ _ h=>h);have ig:=yh (z.o.trans (aa.ah (λ_=>False) c) (λ_ h=>h.elim));have dH:=(c.block _ (aq C.o)).trans C.o;have Jp:=aM dH;have A4:=bG dH;have t:=vd cI ((f:Int)+(K:Int)) I _ J L fK (by simpa [DS.read] using (show S.puts.length+1<=4000000000000 by omega));rw [b] at t;have k:=yh dH;clear g c cI fK dH;rw [b];go_wp2_with fail;refine fR t λw3 a aZ=>?_;have lO:=yh (ig.o.trans aZ (λ_ h=> .inl h));rw [<-O.o] at a⊢;have Z:=Dl a (by have:=jh S.read.read s ((f:Int)+(K:Int)) 512 L;rw [<-O.o] at this;simp only [DS.read] at this;omega);have dH:=(aZ.block _ (aq k.o) (λh=>by have:=A.o _ h;omega)).trans k.o;have Jp:=aM dH;have ahZ:=yh aZ;have H:Y.1=0:=(by simpa using G);rw [H];clear a aZ t dH G H;go_wp2_with fail;refine fR Z λw4 D dW=>?_;obtain⟨Mb,N⟩:=bU (lO.o.trans dW (λj h=>h.elim .inl (λh=> .inr (j3 ig.o.size h.1)))) (ze A.o ig.o ahZ.o dW.size D);clear D dW Z;go_wp2;go_ret;exact⟨rfl,N.o,Mb.o⟩
def QS (i A X:Nat) (c:A<2 ^ i) (h:A+2 ^ i*X<9223372036854775808):
  bits .or .i64 (A:Int) ((2 ^ i*X:Nat):Int)=((A+2 ^ i*X:Nat):Int):=by
 have q:∀z:Nat,z<18446744073709551616->(BitVec.ofInt 64 (z:Int)).toNat=z:=by
  intro z d;rw [BitVec.toNat_ofInt];omega
 have a:A<18446744073709551616:=by omega
 have b:2 ^ i*X<18446744073709551616:=by omega
 show IntKind.i64.wrap ((BitVec.ofInt 64 (A:Int) |||BitVec.ofInt 64 ((2 ^ i*X:Nat):Int)).toNat:Int)=_;rw [BitVec.toNat_or,q A a,q _ b,Nat.or_comm,<-Nat.two_pow_add_eq_or_of_lt c X,Nat.add_comm];generalize A+2 ^ i*X=Z at*;rw [IntKind.wrap_i64];omega
def Cz (a:Bytes l) (h:l.length<=4):le l<9223372036854775808:=by
 have:=lw a;exact i5 this (by have:=Nat.pow_le_pow_right (show 0<2 by omega) (show 8*l.length<=32 by omega);omega)
def tN (g o k c N:Nat) (T:TypeId) (l:List Int) (w:World) (d:j8 w T g l) (q:k<=8) (r:o+k<=l.length):
  Calls prog 239 #[.slice (some (aD g o)) k c,iV (N:Int)] w λe w'=>e= .returned (.tuple #[])/\j8 w' T g (put l o (bB k N))/\aa (λj=>j=g) w w'/\w'.heap.size=w.heap.size:=by
 go_in;go_wp2;go_loopw [7] (λi wr=>∃j:Nat,j<=k/\i=iV j/\j8 wr T g (put l o (bB j N))/\aa (λj=>j=g) w wr/\wr.heap.size=w.heap.size) (λi _=>k-(intOf i).toNat);case atStart=>exact⟨0,dV _,rfl,by rw [bB,DJ];exact d,aa.refl _ _,rfl⟩
 case round=>
  obtain⟨j,n,rfl,aV,rI,eE⟩:=hrel;by_cases bq:j<k
  .have cC:(j:Int)<(k:Int):=(by omega);have a:=aK j N;have py:=LZ (l:=l) (xs:=bB j N) (o:=o) (by omega);have f:=aV.cell (i:=o+j) (by omega);have m:=aV.frozen (o+j);have pd:=aV.set (o+j) ((N / 2 ^ (8*j)%256:Nat):Int);have e:=FQ (l:=l) (xs:=bB j N) (o:=o) (by omega) ((N / 2 ^ (8*j)%256:Nat):Int);rw [a] at e;rw [e,<-i7] at pd;have b:=(rI.trans (aa.setCell (F:=λj=>j=g) (p:=⟨g,o+j,none⟩) wr rfl (.int .u8 ((N / 2 ^ (8*j)%256:Nat):Int))) (λ_ h=> .inl h));go_wp2;go_roundw;case rel=>exact⟨j+1,by omega,by go_num,pd,b,by simpa [World.setCell] using eE⟩
   case measure=>simp [intOf];omega
  .have cC:¬(j:Int)<(k:Int):=(by omega);obtain rfl:j=k:=(by omega);go_wp2
   go_end0
   exact⟨rfl,aV,rI,eE⟩
def oy (b o n c:Nat) (l:List Int) (w:World) (d:Bytes l) (u:l.length=n) (v:n<=4) (g:∀i,i<n->w.cell? ⟨b,o+i,none⟩=some (.int .u8 (l.getD i 0))):
  Calls prog 223 #[.slice (some (aD b o)) n c] w λe w'=>e= .returned (iV ((le l:Nat):Int))/\w'=w:=by
 have m:=yh g;clear g;go_in;go_wp2;go_loopw [3,8] (λr i wr=>∃j:Nat,j<=n/\i=iV j/\wr=w/\r=iV ((le (l.take j):Nat):Int)) (λ_ i _=>n-(intOf i).toNat);case atStart=>exact⟨0,dV _,rfl,rfl,by simp [le]⟩
 case round=>
  obtain⟨j,t,rfl,rfl,rfl⟩:=hrel;by_cases bq:j<n
  .have cC:(j:Int)<(n:Int):=(by omega);have q:=m.o j bq;obtain⟨x,s,jI⟩:∃x:Nat,l.getD j 0=(x:Int)/\x<256:=by
    have:=d.getD j;exact⟨(l.getD j 0).toNat,by omega,by omega⟩
   have iz:=lC (l:=l) (k:=j) (by omega);have f:le (l.take j)<2 ^ (8*j):=by
    have:=lw (d.take j);have e:(l.take j).length=j:=(by simp;omega);rwa [e] at this
   have a:le (l.take (j+1))<9223372036854775808:=Cz (d.take _) (by simp;omega);rw [s] at q iz;simp only [Int.toNat_natCast] at iz;rw [iz] at a;have M8:=QS (8*j) _ x f a;rw [<-iz] at M8;have Ze:((x:Int)*2 ^ (8*j))=((2 ^ (8*j)*x:Nat):Int):=(by rw [Int.natCast_mul,Int.natCast_pow,Int.mul_comm];rfl);have tz:((2 ^ (8*j)*x:Nat):Int)<9223372036854775808:=(by omega);generalize 2 ^ (8*j)*x=Y at*;generalize le (l.take j)=A at*;clear f a iz;go_wp2;go_roundw;case rel=>exact⟨j+1,by omega,by go_num,trivial,by rw [<-(yh M8).out]⟩
   case measure=>simp [intOf];omega
  .have cC:¬(j:Int)<(n:Int):=(by omega);have p:l.take j=l:=nr (by omega);rw [p] at*;go_wp2;go_ret;exact⟨rfl,rfl⟩
structure PC where
 e:Nat
 p:Nat
 i:Nat
 c:Nat
 d:List Int
def PC.zero:PC:=⟨0,0,0,0, []⟩
def kf (b:List Int):PC:=⟨le (b.take 4),le ((b.drop 4).take 4),le ((b.drop 8).take 2),le ((b.drop 10).take 2),b.drop 12⟩
def dj (l:List Int):PC:=if (aX l).2≠0\/(aX l).1.length<12 then PC.zero else kf (aX l).1
def PC.ok (q:PC) (E P i c:Nat):Prop:=q.e=E/\q.p=P/\q.i=i/\q.c=c/\0<q.d.length/\(i+1≠c->q.d.length=492)
def ld (R:Nat->PC) (P k:Nat):List Int:=(List.range k).flatMap (λi=>(R (P+i)).d)
def mw (R:Nat->PC) (P:Nat):ld R P 0= []:=rfl
def iB (R:Nat->PC) (P k:Nat):ld R P (k+1)=ld R P k ++ (R (P+k)).d:=by simp [ld,List.range_succ]
def Rec (R:Nat->PC) (E P c:Nat) (d:List Int):Prop:=1<=c/\c<=17/\(∀i,i<c->(R (P+i)).ok E (P+i) i c)/\d=ld R P c
def Rec.count {R:Nat->PC} (h:Rec R E P c d):(R P).c=c:=by
 have:=(h.2.2.1 0 h.1).2.2.2.1;simpa using this
def Rec.unique {R:Nat->PC} {c':Nat} {a:List Int} (h:Rec R E P c d) (b:Rec R E P c' a):c=c'/\d=a:=by
 have e:=h.count.symm.trans b.count;subst e;exact⟨rfl,h.2.2.2.trans b.2.2.2.symm⟩
def dF (R:Nat->PC) (E:Nat):Nat->List (List Int)->Nat->Prop
 |P, [],h=>h=P
 |P,d :: ds,h=>∃c,Rec R E P c d/\dF R E (P+c) ds h
def dF.nil (R:Nat->PC) (E P:Nat):dF R E P [] P:=rfl
def dF.snoc {R:Nat->PC} {E:Nat}:∀{rs:List (List Int)} {P h c:Nat} {d:List Int},dF R E P rs h->Rec R E h c d->dF R E P (rs ++ [d]) (h+c)
 | [],P,h,c,d,a,hr=>by
  have a:h=P:=a;subst a;exact⟨c,hr,rfl⟩
 |x :: xs,P,h,c,d,⟨k,hk,a⟩,hr=>⟨k,hk,dF.snoc a hr⟩
def dF.unique {R:Nat->PC} {E:Nat}:∀{rs Ba:List (List Int)} {P h e:Nat},dF R E P rs h->(∀c d,¬Rec R E h c d)->dF R E P Ba e->(∀c d,¬Rec R E e c d)->rs=Ba/\h=e
 | [], [],P,h,e,a,_,b,_=>⟨rfl,(show h=P from a).trans (show e=P from b).symm⟩
 | [],x :: xs,P,h,e,a,hn,⟨k,hk,_⟩,_=>by
  have a:h=P:=a;subst a;exact absurd hk (hn _ _)
 |x :: xs, [],P,h,e,⟨k,hk,_⟩,_,b,hn=>by
  have b:e=P:=b;subst b;exact absurd hk (hn _ _)
 |x :: xs,y :: ys,P,h,e,⟨k,hk,ht⟩,hn,⟨k',Bj,ht'⟩,Bm=>by
  obtain⟨rfl,rfl⟩:=hk.unique Bj;obtain⟨rfl,rfl⟩:=dF.unique ht hn ht' Bm;exact⟨rfl,rfl⟩
def dF.le {R:Nat->PC} {E:Nat}:∀{rs:List (List Int)} {P h:Nat},dF R E P rs h->P<=h
 | [],P,h,a=>Nat.le_of_eq (show h=P from a).symm
 |x :: xs,P,h,⟨k,hk,ht⟩=>by have:=dF.le ht;omega
def Rec.at {R:Nat->PC} (h:Rec R E P c d) {q:Nat} (a:P<=q) (b:q<P+c):(R q).p=q:=by
 have:=(h.2.2.1 (q-P) (by omega)).2.1;rwa [show P+(q-P)=q by omega] at this
def dF.at {R:Nat->PC} {E:Nat}:∀{rs:List (List Int)} {P h:Nat},dF R E P rs h->∀q,P<=q->q<h->(R q).p=q
 | [],P,h,a,q,h1,h2=>by have a:h=P:=a;omega
 |x :: xs,P,h,⟨k,hk,ht⟩,q,h1,h2=>by
  by_cases b:q<P+k
  .exact hk.at h1 b
  .exact dF.at ht q (by omega) h2
def dF.round {R:Nat->PC} (f:1<=n) (e:∀q,R (q+n)=R q) (d:dF R E P rs h):h<=P+n:=by
 rcases Nat.lt_or_ge (P+n) h with c|c
 .have a:=d.at P (bS _) (by omega);have b:=d.at (P+n) (by omega) c;rw [e] at b;omega
 .exact c
def dF.length {R:Nat->PC} {E:Nat}:∀{rs:List (List Int)} {P h:Nat},dF R E P rs h->P+rs.length<=h
 | [],P,h,a=>Nat.le_of_eq (show h=P from a).symm
 |x :: xs,P,h,⟨k,hk,ht⟩=>by have:=dF.length ht;have:=hk.1;simp only [List.length_cons];omega
structure Scan (R:Nat->PC) (E T:Nat) (rs:List (List Int)) (h j c:Nat) (d:List Int):Prop where
 t:dF R E T rs h
 p:∀i,i<j->(R (h+i)).ok E (h+i) i c
 c:0<j->1<=c/\c<=17/\j<c
 d:d=ld R h j
def Scan.start (R:Nat->PC) (E T:Nat) (c:Nat):Scan R E T [] T 0 c []:=⟨rfl,λi a=>by omega,λh=>by omega,rfl⟩
def nF (R:Nat->PC) (h j c:Nat):Nat:=if j=0 then (R h).c else c
def Scan.grow {R:Nat->PC} (s:Scan R E T rs h j c d) (f:(R (h+j)).ok E (h+j) j (nF R h j c)) (a:1<=nF R h j c) (b:nF R h j c<=17) (l:j+1≠nF R h j c) (k:j<nF R h j c):
  Scan R E T rs h (j+1) (nF R h j c) (d ++ (R (h+j)).d):=by
 refine⟨s.t,λi g=>?_,λ_=>⟨a,b,by omega⟩,by rw [s.d,iB]⟩;by_cases e:i=j
 .subst e;exact f
 .have Xu:j≠0:=by omega
  have:=s.p i (by omega);rwa [nF,aB Xu]
def Scan.full {R:Nat->PC} (s:Scan R E T rs h j c d) (f:(R (h+j)).ok E (h+j) j (nF R h j c)) (k:nF R h j c<=17) (a:j+1=nF R h j c) (c':Nat):
  Scan R E T (rs ++ [d ++ (R (h+j)).d]) (h+j+1) 0 c' []:=by
 refine⟨?_,λi b=>by omega,λh=>by omega,rfl⟩;have g:Rec R E h (j+1) (d ++ (R (h+j)).d):=by
  refine⟨by omega,by omega,λi b=>?_,by rw [s.d,iB]⟩;by_cases e:i=j
  .subst e;rw [a];exact f
  .have:=s.p i (by omega);have Xu:j≠0:=(by omega);rw [a,nF,aB Xu];exact this
 exact s.t.snoc g
def Scan.ends {R:Nat->PC} (s:Scan R E T rs h j c d) (b:¬((R (h+j)).ok E (h+j) j (nF R h j c)/\1<=nF R h j c/\nF R h j c<=17)):∀c d,¬Rec R E h c d:=by
 intro k x a;by_cases e:j=0
 .subst e;refine b ?_;rw [nF,aG rfl,a.count];exact⟨a.2.2.1 0 a.1,a.1,a.2.1⟩
 .have g:=s.c (by omega);have f:k=c:=by rw [<-a.count];simpa using (s.p 0 (by omega)).2.2.2.1
  subst f;refine b ?_;rw [nF,aB e];exact⟨a.2.2.1 j g.2.2,a.1,a.2.1⟩
def Scan.at {R:Nat->PC} (s:Scan R E T rs h j c d) (q:Nat) (a:T<=q) (e:q<h+j):(R q).p=q:=by
 by_cases b:q<h
 .exact s.t.at q a b
 .have:=(s.p (q-h) (by omega)).2.1;rwa [show h+(q-h)=q by omega] at this
def Scan.round {R:Nat->PC} (g:1<=n) (b:∀q,R (q+n)=R q) (s:Scan R E T rs h j c d) (e:h+j=T+n):∀c d,¬Rec R E h c d:=by
 refine s.ends (λf=>?_);have a:=f.1.2.1;rw [e,b] at a;have:=s.at T (bS _) (by omega);omega
def gN (R:Nat->PC):Nat->Nat
 |0=>0
 |k+1=>if (R k).e<=1073741824 then max (gN R k) (R k).e else gN R k
def DV (R:Nat->PC):∀k,gN R k<=1073741824
 |0=>by simp [gN]
 |k+1=>by
  have:=DV R k;unfold gN;split <;> omega
def qS (a:Bytes l) (h:l.length<=k):le l<2 ^ (8*k):=i5 (lw a) (Nat.pow_le_pow_right (by omega) (by omega))
def Mc (a:Bytes l) (h:l.length<=2):le l<65536:=qS a (k:=2) h
def Md (a:Bytes l) (h:l.length<=4):le l<4294967296:=qS a (k:=4) h
def pR (a:Bytes l):Bytes (aX l).1:=by
 unfold aX;split
 .exact Bytes.nil
 .split
  .exact Bytes.nil
  .rename_i b h;rw [(oj h).2.2.2];exact(a.drop 7).take _
def DW (l:List Int):(aX l).1.length<=504:=by
 unfold aX;split
 .simp
 .split
  .simp
  .rename_i a b h;exact qM h (by omega)
def kh (b:Bytes l):(dj l).e<4294967296/\(dj l).p<4294967296/\(dj l).i<65536/\(dj l).c<65536/\(dj l).d.length<=492/\Bytes (dj l).d:=by
 have a:=pR b;have f:=DW l;unfold dj;split
 .exact⟨by decide,by decide,by decide,by decide,by decide,Bytes.nil⟩
 .exact⟨Md (a.take _) (by simp;omega),Md ((a.drop _).take _) (by simp;omega),Mc ((a.drop _).take _) (by simp;omega),Mc ((a.drop _).take _) (by simp;omega),by simp [kf];omega,a.drop _⟩
section
def DS.DX (S:DS) (r:Int):DS:={S with reads:=r}
def ax (w:World) (F:Nat->Prop) (p s:Nat) (S:DS):Prop:=∃r,aQ w F p s (S.DX r)
section
variable {w w':World} {F G:Nat->Prop} {p s:Nat} {S:DS}
def ax.ok (h:ax w F p s S):S.Ok s:=by
 obtain⟨r,h⟩:=h;exact⟨h.ok.len,h.ok.lo,h.ok.hi,h.ok.puts,h.ok.fuse⟩
def ax.lt (h:ax w F p s S):∀k,F k->k<w.heap.size:=by obtain⟨r,h⟩:=h;exact h.lt
def ax.aw (h:ax w F p s S) (k:aa G w w') (hd:∀k,F k->¬G k):ax w' F p s S:=by obtain⟨r,h⟩:=h;exact⟨r,h.aw k hd⟩
def ax.later (h:ax w F p s S) (a:bW w w'):ax w' F p s S:=h.aw (aa.ah (λ_=>False) a) (λ_ _ h=>h)
def QT (S:DS) (r:Int) (s:Nat) (x:Int) (n:Nat) (l:List Int):(S.DX r).wr s x n l=((S.wr s x n l).1,(S.wr s x n l).2.DX r):=by
 unfold DS.wr;show (if S.fuse=0 then _ else _)=_;split
 .rfl
 .split
  .rfl
  .split <;> rfl
def QU (S:DS) (r:Int) (s:Nat):(S.DX r).fl s=((S.fl s).1,(S.fl s).2.DX r):=by
 unfold DS.fl;show (if S.fuse=0 then _ else _)=_;split <;> rfl
def Vu (S:DS) (r:Int) (k:Nat):(S.DX r).now k=S.now k:=rfl
def Vv (S:DS) (r x:Int):(S.DX r).lay x=(S.lay x).DX r:=by
 unfold DS.lay;show (if S.fuse=0 then _ else _)=_;split <;> rfl
def pS (h:ax w F p s S):Calls prog 36 #[pQ p] w λe w'=>e= .returned (iV s)/\w'=w:=by
 obtain⟨r,h⟩:=h;exact yz h
def zf (h:ax w F p s S):Calls prog 34 #[pQ p] w λe w'=>e= .returned (.bool (S.fuse == 0))/\w'=w:=by
 obtain⟨r,h⟩:=h;exact iu (S:=S.DX r) h
def wm (h:ax w F p s S):Calls prog 17 #[pQ p] w λe w'=>e= .returned (iV S.life)/\w'=w:=by
 obtain⟨r,h⟩:=h;exact UZ (S:=S.DX r) h
def oz (h:ax w F p s S) (x:Int) (a:S.fuse=0):Calls prog 68 #[pQ p,iV x] w λe w'=>e= .returned (.tuple #[.slice none 0 0,iV 3])/\w'=w:=by
 obtain⟨r,h⟩:=h;exact B8 h x a
def JS (h:ax w F p s S):Calls prog 64 #[pQ p] w λe w'=>∃g c,e= .returned (.slice (some (aD g 0)) (s*512) c)/\w.heap.size<=g/\ay w' 5 g c (bs S.im)/\bW w w':=by
 obtain⟨r,h⟩:=h;exact MR p s F (S.DX r) w h
def cZ (S:DS) (s f:Nat) (num:Int):Int×DS:=
 if S.fuse=0 then (3,S) else
 if (aP (S.now f) (S.now (f+1)) num []).2.2≠0 then (((aP (S.now f) (S.now (f+1)) num []).2.2:Int),S) else
 if (S.wr s ((f:Int)+((aP (S.now f) (S.now (f+1)) num []).1:Int)) 512 (aP (S.now f) (S.now (f+1)) num []).2.1).1≠0 then S.wr s ((f:Int)+((aP (S.now f) (S.now (f+1)) num []).1:Int)) 512 (aP (S.now f) (S.now (f+1)) num []).2.1
 else (S.wr s ((f:Int)+((aP (S.now f) (S.now (f+1)) num []).1:Int)) 512 (aP (S.now f) (S.now (f+1)) num []).2.1).2.fl s
def tO (h:ax w F p s S) (f n:Int):Calls prog 97 #[kG p f n] w λe w'=>e= .returned (iV (cw S s f n))/\bW w w':=by
 have a:=h.ok.hi;obtain⟨r,h⟩:=h;exact FP h f n a
end
end
section
structure LG where
 f:Nat
 n:Nat
 life:Int
 begun:Bool
 ep:Nat
 tail:Nat
 head:Nat
 top:Nat
abbrev IZ (p:Nat) (L:LG):Array Value:= #[pQ p,iV (L.f:Int),iV (L.n:Int),iV L.life, .bool L.begun,iV (L.ep:Int),iV (L.tail:Int),iV (L.head:Int),iV (L.top:Int)]
def cW (w:World) (l p:Nat) (L:LG):Prop:=w.heap[l]? =some (.cells (IZ p L) 147 (0,0))
def cW.lt {w:World} {l p:Nat} {L:LG} (h:cW w l p L):l<w.heap.size:=aq h
def cW.aw {w:World} {l p:Nat} {L:LG} (h:cW w l p L) (k:aa G w w') (a:¬G l):cW w' l p L:=(k.block l h.lt a).trans h
section
variable {w:World} {l p:Nat} {L:LG}
def cW.c0 (h:cW w l p L):w.cell? (aD l 0)=some (pQ p):=aM h
def cW.c1 (h:cW w l p L):w.cell? (aD l 1)=some (iV (L.f:Int)):=bG h
def cW.c2 (h:cW w l p L):w.cell? (aD l 2)=some (iV (L.n:Int)):=bK h
def cW.c3 (h:cW w l p L):w.cell? (aD l 3)=some (iV L.life):=fQ h
def cW.c4 (h:cW w l p L):w.cell? (aD l 4)=some (.bool L.begun):=gG h
def cW.c5 (h:cW w l p L):w.cell? (aD l 5)=some (iV (L.ep:Int)):=sb h
def cW.c6 (h:cW w l p L):w.cell? (aD l 6)=some (iV (L.tail:Int)):=wZ h
def cW.c7 (h:cW w l p L):w.cell? (aD l 7)=some (iV (L.head:Int)):=rt h
def cW.c8 (h:cW w l p L):w.cell? (aD l 8)=some (iV (L.top:Int)):=Dp h
def cW.fz (h:cW w l p L) (j:Nat):w.frozen? (aD l j)=false:=ae h j
end
structure LG.Ok (L:LG) (s:Nat):Prop where
 s:L.f+2+L.n<=s
 n1:18<=L.n
 n2:L.n<=256
 ep:L.ep<=1073741824
 top:L.top<1073741824
 th:L.tail<=L.head
 hn:L.head<=L.tail+L.n
 hi:L.head<=1073742080
 hb:L.begun=true->L.head<=1073741824
def LG.dead (L:LG) (S:DS):Bool:=S.fuse == 0 || S.life != L.life
def LG.bj (L:LG) (S:DS):Int:=if L.dead S=true then 3 else if L.begun=true then 0 else 4
section
variable {w:World} {F:Nat->Prop} {p s l:Nat} {S:DS} {L:LG}
def cW.later {w:World} {l p:Nat} {L:LG} (h:cW w l p L) (a:bW w w'):cW w' l p L:=(a.block l h.lt).trans h
def tP (h:ax w F p s S) (b:cW w l p L):
  Calls prog 109 #[pQ l] w λe w'=>e= .returned (.bool (L.dead S))/\bW w w':=by
 have a:=λn=>zf (h.later (below_drewN (bi w.heap.size w) n));have c:=λn=>wm (h.later (below_drewN (bi w.heap.size w) n));have d:=b.c0;have f:=b.c3;unfold LG.dead;go_in;by_cases q:S.fuse=0
 .rw [show (S.fuse == 0)=true by simp [q]] at a⊢;go_wp2_with fail;go_quiet ((go_at_call 34;exact Calls.quiet_of_same (a _)));go_wp2;go_ret;exact⟨rfl,below_drewN (bi _ _) _⟩
 .rw [show (S.fuse == 0)=false by simp [q]] at a⊢;go_wp2_with fail;go_quiet (first|(go_at_call 34;exact Calls.quiet_of_same (a _))|(go_at_call 17;exact Calls.quiet_of_same (c _)));go_wp2;go_ret;exact⟨rfl,below_drewN (bi _ _) _⟩
def jw (h:ax w F p s S) (c:cW w l p L):
  Calls prog 157 #[pQ l] w λe w'=>e= .returned (iV (L.bj S))/\bW w w':=by
 have a:=tP h c;unfold LG.bj;go_in;cases hd:L.dead S
 .rw [hd] at a;cases d:L.begun
  .rw [aB (by decide),aB (by decide)];go_wp2_with fail;refine bM a λw' eH=>?_;have b:=(c.later eH).c4;rw [d] at b;go_wp2;go_ret;exact⟨rfl,eH⟩
  .rw [aB (by decide),aG rfl];go_wp2_with fail;refine bM a λw' eH=>?_;have b:=(c.later eH).c4;rw [d] at b;go_wp2;go_ret;exact⟨rfl,eH⟩
 .rw [hd] at a;rw [aG rfl];go_wp2_with fail;refine bM a λw' eH=>?_;go_wp2;go_ret;exact⟨rfl,eH⟩
def zg (b:cW w l p L) (a:L.Ok s):
  Calls prog 158 #[pQ l] w λe w'=>e= .returned (iV ((L.n:Int)-((L.head:Int)-(L.tail:Int))))/\bW w w':=by
 obtain⟨g,i,j,c,d,f⟩:=jE b.c2 b.c6 b.c7 a.n2 a.th a.hn;go_in;go_wp2_with fail;go_quiet (fail);go_wp2;go_ret;exact⟨rfl,below_drewN (bi _ _) _⟩
def jd (x:Nat) (w:World) (a:x<=140737488355328):Calls prog 211 #[iV (x:Int)] w λe w'=>e= .returned (iV (((x+491) / 492:Nat):Int))/\w'=w:=by
 have h:((x:Int)+492-1) / 492=(((x+491) / 492:Nat):Int):=by omega
 go_in;go_wp2;go_ret;rw [h];exact⟨rfl,rfl⟩
def LG.room (L:LG) (S:DS):Int×Int:=if L.bj S≠0 then (0,L.bj S) else ((L.n:Int)-((L.head:Int)-(L.tail:Int)),0)
def Gc (h:ax w F p s S) (f:cW w l p L) (g:L.Ok s):
  Calls prog 110 #[pQ l] w λe w'=>e= .returned (.tuple #[iV (L.room S).1,iV (L.room S).2])/\bW w w':=by
 have c:=jw h f;unfold LG.room;generalize L.bj S=U at*;go_in;by_cases q:U=0
 .subst q;rw [aB (by decide)];go_wp2_with fail;refine bM c λw1 a=>?_;have b:=a;go_wp2_with fail;refine(zg (f.later a) g).mono ?_;rintro e i ⟨rfl,a⟩;go_wp2;go_ret2;exact⟨rfl,b.trans (a.mono b.size)⟩
 .rw [aG q];have d:(U == 0)=false:=by rw [fJ];exact q
  go_wp2_with fail;refine bM c λw1 a=>?_;go_wp2;go_ret2;exact⟨rfl,a⟩
def LG.sync (L:LG) (S:DS) (s:Nat):Int×DS:=if L.bj S≠0 then (L.bj S,S) else S.fl s
end
end
def cB (S:DS) (g:Nat->DS->Int×DS):Nat->Int×DS
 |0=>(0,S)
 |k+1=>if (cB S g k).1≠0 then cB S g k else g k (cB S g k).2
def gC {S:DS} {g:Nat->DS->Int×DS} {k:Nat} (h:(cB S g k).1≠0):∀m,k<=m->cB S g m=cB S g k
 |0,hm=>by rw [show k=0 by omega]
 |m+1,hm=>by
  by_cases e:k=m+1
  .rw [e]
  .have:=gC h m (by omega);show (if (cB S g m).1≠0 then cB S g m else g m (cB S g m).2)=_;rw [this,aG h]
def jt {g:Nat->DS->Int×DS} (h:(cB S g k).1=0):cB S g (k+1)=g k (cB S g k).2:=by
 rw [cB,aB (by omega)]
def oA {S:DS} {g:Nat->DS->Int×DS} (a:∀k T,(g k T).2.puts.length<=T.puts.length+1):∀k,(cB S g k).2.puts.length<=S.puts.length+k
 |0=>bS _
 |k+1=>by
  have:=oA a k (S:=S);have:=a k (cB S g k).2;unfold cB;split <;> omega
def bE (S:DS) (s f k:Nat):Int×DS:=cB S (λj T=>T.wr s ((f+j:Nat):Int) 512 (zs 512)) k
def cN (S:DS) (s f n:Nat):Int×DS:=if (bE S s f (n+2)).1≠0 then bE S s f (n+2) else (bE S s f (n+2)).2.fl s
def pT (S:DS) (s f k:Nat):(bE S s f k).2.puts.length<=S.puts.length+k:=oA (λ_ _=>jh _ _ _ _ _) k
def vi (b:w.heap.size<=w1.heap.size) (c:w1.heap.size<=w2.heap.size):∀k,more (more F w w1) w1 w2 k->more F w w2 k:=λk a=>by
 rcases a with (a|a)|a
 .exact .inl a
 .exact .inr ⟨a.1,by omega⟩
 .exact .inr ⟨by omega,a.2⟩
def cJ (b:∀k,F k->k<w.heap.size) (c:w.heap.size<=w2.heap.size):∀k,more F w w2 k->k<w2.heap.size:=λk a=>by
 rcases a with a|a
 .have:=b k a;omega
 .exact a.2
def DS.fL (S:DS):Prop:=Bytes S.im/\∀q∈S.puts,Bytes q.2
def zh {im:List Int} (h:Bytes im) (k:Nat):Bytes (bL im k):=(h.drop _).take _
def JT (h:S.fL) (k j:Nat):Bytes ((au S.puts k).getD j []):=by
 rcases Nat.lt_or_ge j (au S.puts k).length with a|a
 .rw [List.getD,List.getElem?_eq_getElem a,Option.getD_some];have b:=List.getElem_mem a;unfold au at b;obtain⟨q,c,e⟩:=List.mem_map.1 b;have:=h.2 q (List.mem_filter.1 c).1;unfold au;rw [<-e];exact this
 .rw [List.getD,List.getElem?_eq_none a];exact Bytes.nil
def su (h:S.fL) (k j:Nat):Bytes (S.gL k j):=by
 unfold DS.gL;split
 .exact zh h.1 k
 .exact JT h k _
def DS.fL.now (h:S.fL) (k:Nat):Bytes (S.now k):=su h k _
def zi {f:Nat->List Int} (h:∀k,Bytes (f k)):Bytes (pC s f):=by
 intro x b;obtain⟨k,_,a⟩:=List.mem_flatMap.1 b;exact h k x a
def DS.fL.wr (h:S.fL) (s:Nat) (x:Int) (n:Nat) (b:Bytes l):(S.wr s x n l).2.fL:=by
 unfold DS.wr;split
 .exact h
 .split
  .exact h
  .split
   .exact h
   .refine⟨h.1,λq a=>?_⟩;rcases List.mem_append.1 a with a|a
    .exact h.2 q a
    .rw [List.mem_singleton.1 a];exact b
def DS.fL.fl (h:S.fL) (s:Nat):(S.fl s).2.fL:=by
 unfold DS.fl;split
 .exact h
 .exact⟨zi h.now,λq a=>by cases a⟩
def DS.fL.take (h:S.fL):S.take.fL:=h
def DS.fL.lay (h:S.fL) (x:Int):(S.lay x).fL:=by
 unfold DS.lay;split
 .exact h
 .exact h
def JU (h:S.fL) (k A B C:Nat):Bytes (jo S k A B C):=by
 unfold jo;exact((su h k _).take _).append ((su h k _).drop _)
def DS.fL.iy (h:S.fL) (s:Nat) (l:List P3):(S.iy s l).fL:=by
 refine⟨zi (λk=>?_),λq a=>by cases a⟩;unfold fj;split
 .exact zh h.1 k
 .exact JU h k _ _ _
def mx {S:DS} {g:Nat->DS->Int×DS} (h:S.fL) (a:∀k T,T.fL->(g k T).2.fL):∀k,(cB S g k).2.fL
 |0=>h
 |k+1=>by
  have:=mx h a k;unfold cB;split
  .exact this
  .exact a k _ this
def Gd (n:Nat):Bytes (zs n):=by unfold zs;exact Bytes.tE n
def DS.fL.QV (h:S.fL) (s f n:Nat):(cN S s f n).2.fL:=by
 have a:∀k,(bE S s f k).2.fL:=mx h (λk T b=>b.wr s _ _ (Gd _));unfold cN;split
 .exact a _
 .exact(a _).fl s
def DY {r:List Int} (num:Int) {c:List Int} (hd:Bytes c):Bytes (aP l r num c).2.1:=by
 have d:∀(a b:Int),c.length<=496->Bytes (bh (cG a b) (aS num.toNat ++ c)):=λa b h=>wg ((iO _).append hd) (by rw [ed,dO];omega) ⟨by omega,by have:=gu a b;omega⟩;unfold aP;split
 .exact Bytes.nil
 .split
  .exact Bytes.nil
  .split
   .exact Bytes.nil
   .dsimp only
    split
    .exact Bytes.nil
    .split
     .exact d _ _ (by omega)
     .exact d _ _ (by omega)
def DS.fL.cZ (h:S.fL) (s f:Nat) (num:Int):(cZ S s f num).2.fL:=by
 have a:=h.wr s ((f:Int)+((aP (S.now f) (S.now (f+1)) num []).1:Int)) 512 (DY (l:=S.now f) (r:=S.now (f+1)) num Bytes.nil);unfold Go.Proofs.YtcpdggdfihjhoabGreat.cZ;split
 .exact h
 .split
  .exact h
  .split
   .exact a
   .exact a.fl s
def wn {old:List Int} (a:Bytes body):Bytes (gv old body).1:=by
 unfold gv;split
 .exact Bytes.nil
 .split
  .exact Bytes.nil
  .exact wg a (by omega) ⟨by omega,by have:=gu (old.getD 0 0) (old.getD 511 0);omega⟩
def sv (S:DS) (s f n:Nat):(cN S s f n).2.puts.length<=S.puts.length+n+3:=by
 have a:=pT S s f (n+2);have b:=yr (bE S s f (n+2)).2 s;unfold cN;split <;> omega
def cD (S:DS) (s:Nat) (f n:Int):Int×DS:=
 if cw S s f n≠0 then (cw S s f n,S) else
 if (cN S.take s f.toNat n.toNat).1≠0 then cN S.take s f.toNat n.toNat else cZ (cN S.take s f.toNat n.toNat).2 s f.toNat 4294967296
def fV {f n:Int} (h:cw S s f n=0):S.fuse≠0/\∃a b:Nat,f=(a:Int)/\n=(b:Int)/\a+2+b<=s/\18<=b/\b<=256:=by
 unfold cw at h;split at h
 .omega
 .rename_i c;split at h
  .omega
  .split at h
   .omega
   .split at h
    .omega
    .exact⟨c,f.toNat,n.toNat,by omega,by omega,by omega,by omega,by omega⟩
def eD {b:Nat} {o:Obj} (h:w.heap[b]? =some o) (a:aa G w w1) (c:¬G b):w1.heap[b]? =some o:=(a.block b (aq h) c).trans h
section
def LG.start (L:LG) (S:DS) (s:Nat):Int×DS×LG:=
 if L.dead S=true then (3,S,L) else if L.begun=true then (5,S,L) else
 if (cZ S s L.f (((L.top+1:Nat):Int)*4294967296+((0:Nat):Int))).1≠0 then ((cZ S s L.f (((L.top+1:Nat):Int)*4294967296+((0:Nat):Int))).1,(cZ S s L.f (((L.top+1:Nat):Int)*4294967296+((0:Nat):Int))).2,L)
 else (0,(cZ S s L.f (((L.top+1:Nat):Int)*4294967296+((0:Nat):Int))).2,{L with begun:=true,ep:=L.top+1,tail:=0,head:=0})
def LG.trim (L:LG) (S:DS) (s:Nat):Int×DS×LG:=
 if (L.sync S s).1≠0 then ((L.sync S s).1,(L.sync S s).2,L) else if L.tail=L.head then (0,(L.sync S s).2,L) else
 if (cZ (L.sync S s).2 s L.f ((L.ep:Int)*4294967296+(L.head:Int))).1≠0 then ((cZ (L.sync S s).2 s L.f ((L.ep:Int)*4294967296+(L.head:Int))).1,(cZ (L.sync S s).2 s L.f ((L.ep:Int)*4294967296+(L.head:Int))).2,L)
 else (0,(cZ (L.sync S s).2 s L.f ((L.ep:Int)*4294967296+(L.head:Int))).2,{L with tail:=L.head})
def cW.started {w:World} {l p:Nat} {L:LG} (h:cW w l p L) (E:Int) (n:Nat) (e:E=(n:Int)):
  cW ((((w.setCell ⟨l,4,none⟩ (.bool true)).setCell ⟨l,5,none⟩ (.int .i64 E)).setCell ⟨l,6,none⟩ (.int .i64 0)).setCell ⟨l,7,none⟩ (.int .i64 0)) l p {L with begun:=true,ep:=n,tail:=0,head:=0}:=by
 subst e;have a:=heap_setCell_same _ _ 4 _ _ (.bool true) h;have b:=heap_setCell_same _ _ 5 _ _ (iV (n:Int)) a;have c:=heap_setCell_same _ _ 6 _ _ (iV 0) b;have d:=heap_setCell_same _ _ 7 _ _ (iV 0) c;exact d.trans (by simp [IZ])
def cW.trimmed {w:World} {l p:Nat} {L:LG} (h:cW w l p L):cW (w.setCell ⟨l,6,none⟩ (.int .i64 (L.head:Int))) l p {L with tail:=L.head}:=
   (heap_setCell_same _ _ 6 _ _ (iV (L.head:Int)) h).trans (by simp [IZ])
def aL {F:Nat->Prop} (w:World) {l:Nat} (a:F l) (j:Nat) (v:Value):aa F w (w.setCell ⟨l,j,none⟩ v):=aa.setCell (F:=F) w (p:=(aD l j)) a v
section
variable {w:World} {F:Nat->Prop} {p s l:Nat} {S:DS} {L:LG}
end
end
section
def nG (L:LG) (S:DS) (s:Nat):(L.sync S s).2.puts.length<=S.puts.length+1:=by
 unfold LG.sync;split
 .simp
 .exact yr S s
def pU {S:DS} (h:S.fL) (L:LG) (s:Nat):(L.sync S s).2.fL:=by
 unfold LG.sync;split
 .exact h
 .exact h.fl s
def JV {L:LG} {S:DS} {s:Nat} (h:(L.sync S s).1=0):L.begun=true:=by
 unfold LG.sync at h;split at h
 .rename_i a;exact absurd h a
 .rename_i a;unfold LG.bj at a;split at a
  .omega
  .split at a
   .assumption
   .omega
section
variable {w:World} {F:Nat->Prop} {p s l:Nat} {S:DS} {L:LG}
end
end
abbrev lf (e q i c:Int) (a:Option Addr) (n k:Nat):Value:= .agg #[iV e,iV q,iV i,iV c, .slice a n k]
abbrev eO (e q i c:Int) (a:Option Addr) (n k:Nat):Array Value:= #[iV e,iV q,iV i,iV c, .slice a n k]
def kO (E P i c:Nat) (part:List Int):List Int:=bB 4 E ++ (bB 4 P ++ (bB 2 i ++ (bB 2 c ++ part)))
def DZ (A X:List Int) (m:Nat) (h:X.length<=m):put (A ++ zs m) A.length X=(A ++ X) ++ zs (m-X.length):=by
 unfold put;have e:zs m=zs X.length ++ zs (m-X.length):=by rw [<-lU];congr 1;omega
 have a:A.length+X.length=(A ++ zs X.length).length:=by rw [ed,bH]
 rw [List.take_left,a,e,<-List.append_assoc A (zs X.length),List.drop_left,List.append_assoc]
def vj (E P i c:Nat) (l:List Int):(kO E P i c l).length=12+l.length:=by
 simp only [kO,ed,aK];omega
def my (h:Bytes l):Bytes (kO E P i c l):=(iR _ _).append ((iR _ _).append ((iR _ _).append ((iR _ _).append h)))
def QW (E P i c:Nat) (l:List Int):kO E P i c l=(((bB 4 E ++ bB 4 P) ++ bB 2 i) ++ bB 2 c) ++ l:=by
 simp only [kO,List.append_assoc]
def QX (E P i c:Nat) (a:Option Addr) (n k:Nat) (l:List Int) (w:World) (D:Src w a n l) (hn:n<=492) (tB:a=none->k=0):
  Calls prog 234 #[lf E P i c a n k] w λe w'=>∃v,e= .returned v/\Own w' w.heap.size v (kO E P i c l)/\bW w w':=by
 obtain⟨R,N,gB,dC,eu⟩:=info_parts gh;have H:=yh D;have O:=D.1;obtain⟨m,Q⟩:∃m:Nat,m=12+n:=⟨_,rfl⟩;have Z:(4:Int)<=(m:Int):=by omega
 have b8:(8:Int)<=(m:Int):=by omega
 have U:(10:Int)<=(m:Int):=by omega
 have W:(12:Int)<=(m:Int):=by omega
 have n4:¬m=4:=by omega
 have n8:¬m=8:=by omega
 have Y:¬m=10:=by omega
 have y:=yh Q;rw [QW];obtain⟨A,C⟩:=bQ ((((bB 4 E ++ bB 4 P) ++ bB 2 i) ++ bB 2 c));rw [<-C];have S:=yh C;clear D C Q;go_in;go_wp2_with (at_make;refine iT _ rfl _ _ rfl _ 12 m rfl rfl ?c1 ?c2 ?c3 ?_);case c1=>have:=y.o;omega
 case c2=>omega
 case c3=>have:=y.o;omega
 intro w1 aV ar;have dH:w1.heap[w.heap.size]? =some (.cells (eO E P i c a n k) 229 (0,0)):=(ar.block _ (by simp)).trans (heap_alloc_new _ _);have cQ:=yh ((yh (aJ w (.cells (eO E P i c a n k) 229))).out.trans (ar.mono (by simp)));clear ar;obtain⟨p,CA⟩:=bU dH (y.o▸aV:j8 w1 5 (w.heap.size+1) (zs (12+n)));clear aV;have X:=aM p.o;have J:put (zs (12+n)) 0 (bB 4 E)=bB 4 E ++ zs (8+n):=by
  have:=DZ ([]:List Int) (bB 4 E) (12+n) (by rw [aK];omega);simp only [aK,List.nil_append,List.length_nil] at this;rw [show 12+n-4=8+n by omega] at this;exact this
 have cq:=λ(r:Nat) (wx:World) (b:j8 wx 5 (w.heap.size+1) (zs (12+n)))=>tN (w.heap.size+1) 0 4 r E 5 (zs (12+n)) wx b (by omega) (by simp only [bH];omega);rw [J] at cq;have Bz:=yh cq;clear J cq;go_wp2_with fail
 go_region_with ((go_at_call 239;refine(Bz.o _ w1.drew CA.o).mono ?_;rintro e F ⟨rfl,f,d,g⟩;have b:=eD (w:=w1.drew) (w1:=F) p.o d (by omega)))
 obtain⟨Vw,ig⟩:=bU b f;have dP:=yh ((ai cQ.o).trans (d.below (B:=w.heap.size) (λj z=>by omega) (ai cQ.o).size));clear X Bz b f d g;have c1:=bG Vw.o;have K:put (bB 4 E ++ zs (8+n)) 4 (bB 4 P)=(bB 4 E ++ bB 4 P) ++ zs (4+n):=by
  have:=DZ (bB 4 E) (bB 4 P) (8+n) (by rw [aK];omega);simp only [aK] at this;rw [show 8+n-4=4+n by omega] at this;exact this
 have fH:=λ(r:Nat) (wx:World) (b:j8 wx 5 (w.heap.size+1) (bB 4 E ++ zs (8+n)))=>tN (w.heap.size+1) 4 4 r P 5 (bB 4 E ++ zs (8+n)) wx b (by omega) (by simp only [ed,aK,bH];omega);rw [K] at fH;have Vx:=yh fH;clear K fH;go_wp2_with fail
 go_region_with ((go_at_call 239;refine(Vx.o _ F.drew ig.o).mono ?_;rintro e G ⟨rfl,f,d,g⟩;have b:=eD (w:=F.drew) (w1:=G) Vw.o d (by omega)))
 obtain⟨Vy,lO⟩:=bU b f;have gd:=yh ((ai dP.o).trans (d.below (B:=w.heap.size) (λj z=>by omega) (ai dP.o).size));clear c1 Vx b f d g;have c2:=bK Vy.o;have L:put ((bB 4 E ++ bB 4 P) ++ zs (4+n)) 8 (bB 2 i)=((bB 4 E ++ bB 4 P) ++ bB 2 i) ++ zs (2+n):=by
  have:=DZ (bB 4 E ++ bB 4 P) (bB 2 i) (4+n) (by rw [aK];omega);simp only [ed,aK,Nat.reduceAdd] at this;rw [show 4+n-2=2+n by omega] at this;exact this
 have ip:=λ(r:Nat) (wx:World) (b:j8 wx 5 (w.heap.size+1) ((bB 4 E ++ bB 4 P) ++ zs (4+n)))=>tN (w.heap.size+1) 8 2 r i 5 ((bB 4 E ++ bB 4 P) ++ zs (4+n)) wx b (by omega) (by simp only [ed,aK,bH];omega);rw [L] at ip;have s:=yh ip;clear L ip;go_wp2_with fail
 go_region_with ((go_at_call 239;refine(s.o _ G.drew lO.o).mono ?_;rintro e I ⟨rfl,f,d,g⟩;have b:=eD (w:=G.drew) (w1:=I) Vy.o d (by omega)))
 obtain⟨XM,Mb⟩:=bU b f;have jU:=yh ((ai gd.o).trans (d.below (B:=w.heap.size) (λj z=>by omega) (ai gd.o).size));clear c2 s b f d g;have c3:=fQ XM.o;have M:put (((bB 4 E ++ bB 4 P) ++ bB 2 i) ++ zs (2+n)) 10 (bB 2 c)=(((bB 4 E ++ bB 4 P) ++ bB 2 i) ++ bB 2 c) ++ zs (0+n):=by
  have:=DZ ((bB 4 E ++ bB 4 P) ++ bB 2 i) (bB 2 c) (2+n) (by rw [aK];omega);simp only [ed,aK,Nat.reduceAdd] at this;rw [show 2+n-2=0+n by omega] at this;exact this
 have je:=λ(r:Nat) (wx:World) (b:j8 wx 5 (w.heap.size+1) (((bB 4 E ++ bB 4 P) ++ bB 2 i) ++ zs (2+n)))=>tN (w.heap.size+1) 10 2 r c 5 (((bB 4 E ++ bB 4 P) ++ bB 2 i) ++ zs (2+n)) wx b (by omega) (by simp only [ed,aK,bH];omega);rw [M] at je;have t:=yh je;clear M je;go_wp2_with fail
 go_region_with ((go_at_call 239;refine(t.o _ I.drew Mb.o).mono ?_;rintro e w5 ⟨rfl,f,d,g⟩;have b:=eD (w:=I.drew) (w1:=w5) XM.o d (by omega)))
 obtain⟨Zu,Ur⟩:=bU b f;have jq:=yh ((ai jU.o).trans (d.below (B:=w.heap.size) (λj z=>by omega) (ai jU.o).size));clear c3 t b f d g;have c4:=gG Zu.o;have aA:Own w5 w.heap.size (.slice (some ⟨w.heap.size+1,0,none⟩) (((bB 4 E ++ bB 4 P) ++ bB 2 i) ++ bB 2 c).length m) (((bB 4 E ++ bB 4 P) ++ bB 2 i) ++ bB 2 c):=L7 Ur.o (by omega) (by simp only [ed,aK,bH];have:=y.o;omega) (by unfold maxLen;have:=y.o;omega);have j5:(((bB 4 E ++ bB 4 P) ++ bB 2 i) ++ bB 2 c).length=12:=by simp only [ed,aK]
 rw [j5] at aA;have be:w5.ownsRow w.heap.size 5 1 (.slice (some ⟨w.heap.size+1,0,none⟩) 12 m) 12 (bs (((bB 4 E ++ bB 4 P) ++ bB 2 i) ++ bB 2 c)):=by
  have:=aA;unfold Own at this;rwa [j5] at this
 have u9:=yh be;have bt:=yh aA;have g:=jq.o.size;rw [<-S.o] at j5 u9 bt;clear aA be p Vw Vy XM CA ig lO Mb Ur cQ dP gd jU;cases a with
 |none=>
  have kZ:=H.o.2.1 rfl;subst kZ;have vX:=List.eq_nil_of_length_eq_zero O;subst vX;have Jp:=tB rfl;subst Jp;go_wp2_with (at_builtin;refine wpList_append_own_none rfl _ _ 22 rfl w.heap.size 5 R 1 underlying22 N _ 12 (bs A) rfl u9.o rfl ?_);go_ret;exact⟨_,rfl,by first|exact bt.o|(rw [List.append_nil];exact bt.o),jq.o⟩
 |some x=>
  have vg:=yh (λj u (z:(bs l)[j]? =some u)=>show w5.cell? (x.add j)=some u by
   obtain⟨Zg,rfl⟩:=fx z;exact cell_later jq.o (H.o.2.2 _ rfl j (by omega)))
  have DN:(bs l).length=n:=by rw [bs,List.length_map,O]
  go_wp2_with (at_builtin;refine wpList_append_own _ rfl _ _ 22 rfl w.heap.size 5 R (.int .u8 0) 1 1 underlying22 N gB dC eu rfl (by decide) _ 12 (bs A) rfl u9.o x n k (bs l) rfl ?n0 vg.out ?n2 ?n3 ?n4 ?n5 ?_);case n0=>omega
  case n2=>exact cF _
  case n3=>unfold maxLen;omega
  case n4=>omega
  case n5=>exact g
  intro v' w6 cM k9 _;rw [<-iQ] at cM;obtain⟨T,xu⟩:=bU (DI (m:=A ++ l) cM (by rw [ed,j5];omega) rfl) (jq.o.grown k9 g (λq e=>(u9.o.lt q e).1));clear cM k9;go_wp2;go_ret;exact⟨_,rfl,T.o,xu.o⟩
section
def bX (w:World) (F:Nat->Prop) (p s:Nat) (S:DS) (m:Nat):Prop:=∃r,gS w F p s (S.DX r) m
section
variable {w w':World} {F G:Nat->Prop} {p s m:Nat} {S:DS}
def bX.r (h:bX w F p s S m):ax w F p s S:=by obtain⟨r,h⟩:=h;exact⟨r,h.at⟩
def oW {S:DS} {s:Nat} (a:S.fuse≠0) (b:k<s) (l:List Int):S.wr s (k:Int) 512 l=(0,(S.put k l).wrote.gq):=by
 unfold DS.wr;rw [aB a,aB (by omega),aB (by omega),Int.toNat_natCast]
end
def jX (S:DS) (s f n E P i c:Nat) (part:List Int):Int×DS:=
 if S.fuse=0 then (3,S) else S.wr s ((f+2+P%n:Nat):Int) 512 (gv (S.now (f+2+P%n)) (kO E P i c part)).1
def sw {old:List Int} (b:old.length=512) (a:body.length<=504):(gv old body).2=0/\(gv old body).1.length=512:=by
 unfold gv;rw [aB (by omega),aB (by omega)];exact⟨rfl,fv a⟩
def Src.oX {w w':World} {a:Option Addr} {F:Nat->Prop} (h:Src w a n l) (g:aa F w w') (d:∀y,a=some y->0<n->¬F y.block):Src w' a n l:=
   ⟨h.1,h.2.1,λx c i f=>by
  have h0:=h.2.2 x c i f;have e:(x.add i).block=x.block:=by unfold Addr.add;split <;> rfl
  rw [World.cell?_of_block (w:=w) (g.block _ (World.block_lt_of_cell? _ _ h0) (λb=>by rw [e] at b;exact d x c (by omega) b))];exact h0⟩
def gX (w:World) (a b:Obj):bW w ((w.alloc a).alloc b):=((bi _ _).alloc (bS _) _).alloc (by simp) _
end
def zj {b o:Nat} (h:Src w (some (aD b o)) n l) (x y:Nat) (c:x+y<=n):∀i,i<y->w.cell? ⟨b,o+x+i,none⟩=some (.int .u8 (((l.drop x).take y).getD i 0)):=by
 intro i a;have:=h.2.2 _ rfl (x+i) (by omega);rw [aN] at this;rw [Nat.add_assoc,this];congr 2;simp [List.getD,a,List.getElem?_drop]
def Nv {b o:Nat} (h:Src w (some (aD b o)) n l) (x y:Nat) (a:x+y<=n):Src w (some ⟨b,o+x,none⟩) y ((l.drop x).take y):=
   ⟨by have:=h.1;simp;omega,(λe=>by cases e),λz d i c=>by cases d;rw [aN];exact zj h x y a i c⟩
def JW (w1:World) (b:Nat) (a c d e f:Value):aa (λk=>k=b) w1 (((((w1.setCell ⟨b,0,none⟩ a).setCell ⟨b,1,none⟩ c).setCell ⟨b,2,none⟩ d).setCell ⟨b,3,none⟩ e).setCell ⟨b,4,none⟩ f):=
   ((((aL (F:=λk=>k=b) w1 rfl 0 a).trans (aL (F:=λk=>k=b) _ rfl 1 c) (λ_ h=> .inl h)).trans (aL (F:=λk=>k=b) _ rfl 2 d) (λ_ h=> .inl h)).trans (aL (F:=λk=>k=b) _ rfl 3 e) (λ_ h=> .inl h)).trans (aL (F:=λk=>k=b) _ rfl 4 f) (λ_ h=> .inl h)
def JX (w:World) (b:Nat):(World.drew w).heap[b]? =w.heap[b]? :=rfl
def CB {b:Nat} {t:TypeId} {g i j k l:Value} (a c d e f:Value) (h:w.heap[b]? =some (.cells #[g,i,j,k,l] t (0,0))):
    (World.drew (((((w.setCell ⟨b,0,none⟩ a).setCell ⟨b,1,none⟩ c).setCell ⟨b,2,none⟩ d).setCell ⟨b,3,none⟩ e).setCell ⟨b,4,none⟩ f)).heap[b]? =some (.cells #[a,c,d,e,f] t (0,0)):=(JX _ _).trans (PX a c d e f h)
def ki:(prog.info? 229).map (·.size)=some 5:=by kernel_rfl
def oB {B:Nat} (h:Below B w w1) {b:Nat} (a:B<=b) (c d e f g:Value):Below B w (((((w1.setCell ⟨b,0,none⟩ c).setCell ⟨b,1,none⟩ d).setCell ⟨b,2,none⟩ e).setCell ⟨b,3,none⟩ f).setCell ⟨b,4,none⟩ g):=
   ((((h.setCell (p:=⟨b,0,none⟩) a _).setCell (p:=⟨b,1,none⟩) a _).setCell (p:=⟨b,2,none⟩) a _).setCell (p:=⟨b,3,none⟩) a _).setCell (p:=⟨b,4,none⟩) a _
def JY (a:Option Addr) (n c:Nat) (l:List Int) (w:World) (i:Src w a n l) (g:Bytes l) (p:(aX l).2≠0\/(aX l).1.length<12):
  Calls prog 189 #[.slice a n c] w λe w'=>e= .returned (lf 0 0 0 0 none 0 0)/\bW w w':=by
 have d:=Cw a n c l (w.alloc (.cells (eO 0 0 0 0 none 0 0) 229)) (i.later (aJ _ _)) g;generalize aX l=Y at*;go_in;go_wp2_with fail;refine d.mono ?_;rintro e w1 ⟨v,rfl,⟨m,o,rfl,eh,_,_⟩,ar⟩;have b:=(ar.block _ (by simp)).trans (heap_alloc_new _ _);have cQ:=((aJ w (.cells (eO 0 0 0 0 none 0 0) 229)).trans (ar.mono (by simp)));have f:=λj=>ae b j;obtain⟨r,s,t,u,x⟩:=eK (aM b) (bG b) (bK b) (fQ b) (gG b);by_cases q:Y.2=0
 .have k:(Y.1.length:Int)<12:=by omega
  rw [q] at d;go_wp2;exact bodyPost_ret (results_cell_row (P:=prog) rfl _ _ w.heap.size 229 _ (0,0) _ rfl (PX _ _ _ _ _ b) underlying229 rfl ki) rfl ⟨rfl,oB cQ (bS _) _ _ _ _ _⟩
 .have k:(((Y.2:Nat):Int) == 0)=false:=by rw [fJ];omega
  go_wp2;exact bodyPost_ret (results_cell_row (P:=prog) rfl _ _ w.heap.size 229 _ (0,0) _ rfl (PX _ _ _ _ _ b) underlying229 rfl ki) rfl ⟨rfl,oB cQ (bS _) _ _ _ _ _⟩
def JZ (a:Option Addr) (n c:Nat) (l:List Int) (w:World) (N:Src w a n l) (I:Bytes l) (M:(aX l).2=0) (qL:12<=(aX l).1.length):
  Calls prog 189 #[.slice a n c] w λe w'=>∃a' k,e= .returned (lf ((kf (aX l).1).e:Int) ((kf (aX l).1).p:Int) ((kf (aX l).1).i:Int) ((kf (aX l).1).c:Int) a' (kf (aX l).1).d.length k)/\Src w' a' (kf (aX l).1).d.length (kf (aX l).1).d/\(∀y,a'=some y->w.heap.size<y.block)/\bW w w':=by
 have z:=Cw a n c l (w.alloc (.cells (eO 0 0 0 0 none 0 0) 229)) (N.later (aJ _ _)) I;have r:=pR I;rw [M] at z;generalize (aX l).1=Y at*;have aos:¬(Y.length:Int)<12:=by omega
 go_in;go_wp2_with fail;refine z.mono ?_;rintro e w1 ⟨v,rfl,⟨U,m,rfl,eh,A4,mi⟩,ar⟩;obtain⟨b,o,rfl⟩:=cX eh (by omega);have QY:=mi _ rfl;have s:=(ar.block _ (by simp)).trans (heap_alloc_new _ _);have cQ:=((aJ w (.cells (eO 0 0 0 0 none 0 0) 229)).trans (ar.mono (by simp)));have f:=λj=>ae s j;obtain⟨k0,k1,k2,k3,k4⟩:=eK (aM s) (bG s) (bK s) (fQ s) (gG s);have Q:=λwx (g:∀a,World.cell? wx a=w1.cell? a) t=>oy b o 4 t (Y.take 4) wx (r.take 4) (by simp;omega) (by omega) (λi q=>(g _).trans (by have:=zj eh 0 4 (by omega) i q;rwa [List.drop_zero,Nat.add_zero] at this));have R:=λwx (g:∀a,World.cell? wx a=w1.cell? a) t=>oy b (o+4) 4 t ((Y.drop 4).take 4) wx ((r.drop 4).take 4) (by simp;omega) (by omega) (λi q=>(g _).trans (zj eh 4 4 (by omega) i q));have S:=λwx (g:∀a,World.cell? wx a=w1.cell? a) t=>oy b (o+8) 2 t ((Y.drop 8).take 2) wx ((r.drop 8).take 2) (by simp;omega) (by omega) (λi q=>(g _).trans (zj eh 8 2 (by omega) i q));have T:=λwx (g:∀a,World.cell? wx a=w1.cell? a) t=>oy b (o+10) 2 t ((Y.drop 10).take 2) wx ((r.drop 10).take 2) (by simp;omega) (by omega) (λi q=>(g _).trans (zj eh 10 2 (by omega) i q));have W:(4:Int)<=(m:Int):=by omega
 have X:(8:Int)<=(m:Int):=by omega
 have J:(10:Int)<=(m:Int):=by omega
 have K:(12:Int)<=(m:Int):=by omega
 have Z:(Y.length:Int)<=(m:Int):=by omega
 have n0:¬m=0:=by omega
 have n4:¬m=4:=by omega
 have n8:¬m=8:=by omega
 have O:¬m=10:=by omega
 obtain⟨C,D,E,F,H⟩:=eK Q R S T s;by_cases G:m=12
 .have Vz:Y.length=12:=by omega
  have ac2:((kf Y).d= []):=List.eq_nil_of_length_eq_zero (by simp [kf,Vz]);subst G;rw [Vz] at*;go_wp2_with fail;go_region_held3 (λ_=>True) (trivial)
   (first
    |(go_at_call 223;refine(C w1.drew (λ_=>rfl) 12).mono ?_;clear C;rintro e u ⟨rfl,g⟩;subst g)
    |(go_at_call 223;refine(D w1.drew (λ_=>rfl) (8)).mono ?_;clear D;rintro e u ⟨rfl,g⟩;subst g)
    |(go_at_call 223;refine(E w1.drew (λ_=>rfl) (4)).mono ?_;clear E;rintro e u ⟨rfl,g⟩;subst g)
    |(go_at_call 223;refine(F w1.drew (λ_=>rfl) (2)).mono ?_;clear F;rintro e u ⟨rfl,g⟩;subst g))
  go_wp2;refine bodyPost_ret (results_cell_row (P:=prog) rfl _ _ w.heap.size 229 _ (0,0) _ rfl (CB _ _ _ _ _ H) underlying229 rfl ki) rfl ⟨some (aD b o),0,?_,?_,?_,ai (oB cQ (bS _) _ _ _ _ _)⟩
  .rw [ac2];rfl
  .rw [ac2];exact⟨rfl,λ_=>rfl,λx s i q=>by cases q⟩
  .intro y A;cases A;simp at QY;show w.heap.size<b;omega
 .go_wp2_with fail;go_region_held3 (λ_=>True) (trivial)
   (first
    |(go_at_call 223;refine(C w1.drew (λ_=>rfl) m).mono ?_;clear C;rintro e u ⟨rfl,g⟩;subst g)
    |(go_at_call 223;refine(D w1.drew (λ_=>rfl) (m-4)).mono ?_;clear D;rintro e u ⟨rfl,g⟩;subst g)
    |(go_at_call 223;refine(E w1.drew (λ_=>rfl) (m-8)).mono ?_;clear E;rintro e u ⟨rfl,g⟩;subst g)
    |(go_at_call 223;refine(F w1.drew (λ_=>rfl) (m-10)).mono ?_;clear F;rintro e u ⟨rfl,g⟩;subst g))
  go_wp2;have qN:(kf Y).d.length=Y.length-12:=by simp [kf]
  refine bodyPost_ret (results_cell_row (P:=prog) rfl _ _ w.heap.size 229 _ (0,0) _ rfl (CB _ _ _ _ _ H) underlying229 rfl ki) rfl ⟨some ⟨b,o+12,none⟩,m-12,?_,?_,?_,ai (oB cQ (bS _) _ _ _ _ _)⟩
  .rw [qN];rfl
  .rw [qN];have z:=Nv eh 12 (Y.length-12) (by omega);rw [nr (by simp)] at z;have L:=z.oX (JW w1 w.heap.size (iV ((le (Y.take 4):Nat):Int)) (iV ((le ((Y.drop 4).take 4):Nat):Int)) (iV ((le ((Y.drop 8).take 2):Nat):Int)) (iV ((le ((Y.drop 10).take 2):Nat):Int)) (.slice (some ⟨b,o+12,none⟩) (Y.length-12) (m-12))) (λy A _ e=>by cases A;simp at QY e;omega);exact L.later (ai (bi _ _))
  .intro y A;cases A;simp at QY;show w.heap.size<b;omega
def Ge (a:Option Addr) (n c:Nat) (l:List Int) (w:World) (f:Src w a n l) (b:Bytes l):
  Calls prog 189 #[.slice a n c] w λe w'=>∃a' k,e= .returned (lf ((dj l).e:Int) ((dj l).p:Int) ((dj l).i:Int) ((dj l).c:Int) a' (dj l).d.length k)/\Src w' a' (dj l).d.length (dj l).d/\(∀y,a'=some y->w.heap.size<y.block)/\bW w w':=by
 by_cases q:(aX l).2≠0\/(aX l).1.length<12
 .refine(JY a n c l w f b q).mono ?_;rintro e w' ⟨rfl,eH⟩;unfold dj;rw [aG q];exact⟨none,0,rfl,⟨rfl,λ_=>rfl,λx g=>by cases g⟩,λy j=>(by cases j),eH⟩
 .refine(JZ a n c l w f b (by omega) (by omega)).mono ?_;rintro e w' h;unfold dj;rw [aB q];exact h
def lE (w:World) (B g i:Nat) (q:PC):Prop:=
 ∃a k,w.cell? ⟨g,i*5,none⟩=some (iV (q.e:Int))/\w.cell? ⟨g,i*5+1,none⟩=some (iV (q.p:Int))/\w.cell? ⟨g,i*5+2,none⟩=some (iV (q.i:Int))/\w.cell? ⟨g,i*5+3,none⟩=some (iV (q.c:Int))/\
  w.cell? ⟨g,i*5+4,none⟩=some (.slice a q.d.length k)/\Src w a q.d.length q.d/\∀y,a=some y->B<=y.block
def lE.aw {B:Nat} {q:PC} (h:lE w B g i q) (c:aa F w w') (t:¬F g) (p:∀k,F k->k<B):lE w' B g i q:=by
 obtain⟨a,k,h0,f,j,l,m,n,b⟩:=h;have e:∀o v,w.cell? (aD g o)=some v->w'.cell? (aD g o)=some v:=λo v d=>by
  have r:=World.block_lt_of_cell? _ _ d;exact(World.cell?_of_block (w:=w) (a:=(aD g o)) (c.block g r t)).trans d
 exact⟨a,k,e _ _ h0,e _ _ f,e _ _ j,e _ _ l,e _ _ m,n.oX c (λy u _ s=>by have:=b y u;have:=p _ s;omega),b⟩
def lE.later {B:Nat} {q:PC} (h:lE w B g i q) (a:bW w w'):lE w' B g i q:=h.aw (aa.ah (λ_=>False) a) (λh=>h) (λ_ h=>h.elim)
def J0:(prog.info? 229).map (λi=>(i.zero,i.size,i.bytes))=some (some (lf 0 0 0 0 none 0 0),5,56):=by kernel_rfl
def Nx {T:TypeId} {cur:Array Value} (m:w.heap[g]? =some (.cells cur T (0,0))) (n:j+5<=cur.size) (a b c d e:Value):
  ∃cur',(((((w.setCell ⟨g,j,none⟩ a).setCell ⟨g,j+1,none⟩ b).setCell ⟨g,j+2,none⟩ c).setCell ⟨g,j+3,none⟩ d).setCell ⟨g,j+4,none⟩ e).heap[g]? =some (.cells cur' T (0,0))/\cur'.size=cur.size/\
   cur'[j]? =some a/\cur'[j+1]? =some b/\cur'[j+2]? =some c/\cur'[j+3]? =some d/\cur'[j+4]? =some e/\∀o,o<j\/j+5<=o->cur'[o]? =cur[o]? :=by
 have h0:=heap_setCell_same w g j _ T a m;have f:=heap_setCell_same _ g (j+1) _ T b h0;have i:=heap_setCell_same _ g (j+2) _ T c f;have k:=heap_setCell_same _ g (j+3) _ T d i;have l:=heap_setCell_same _ g (j+4) _ T e k;refine⟨_,l,by simp,?_,?_,?_,?_,?_,?_⟩
 .rw [Array.getElem?_setIfInBounds_ne (by omega),Array.getElem?_setIfInBounds_ne (by omega),Array.getElem?_setIfInBounds_ne (by omega),Array.getElem?_setIfInBounds_ne (by omega),Array.getElem?_setIfInBounds_self_of_lt (by omega)]
 .rw [Array.getElem?_setIfInBounds_ne (by omega),Array.getElem?_setIfInBounds_ne (by omega),Array.getElem?_setIfInBounds_ne (by omega),Array.getElem?_setIfInBounds_self_of_lt (by simp;omega)]
 .rw [Array.getElem?_setIfInBounds_ne (by omega),Array.getElem?_setIfInBounds_ne (by omega),Array.getElem?_setIfInBounds_self_of_lt (by simp;omega)]
 .rw [Array.getElem?_setIfInBounds_ne (by omega),Array.getElem?_setIfInBounds_self_of_lt (by simp;omega)]
 .rw [Array.getElem?_setIfInBounds_self_of_lt (by simp;omega)]
 .intro o p;rw [Array.getElem?_setIfInBounds_ne (by omega),Array.getElem?_setIfInBounds_ne (by omega),Array.getElem?_setIfInBounds_ne (by omega),Array.getElem?_setIfInBounds_ne (by omega),Array.getElem?_setIfInBounds_ne (by omega)]
def tQ (w1:World) (b j:Nat) (a c d e f:Value):aa (λk=>k=b) w1 (((((w1.setCell ⟨b,j,none⟩ a).setCell ⟨b,j+1,none⟩ c).setCell ⟨b,j+2,none⟩ d).setCell ⟨b,j+3,none⟩ e).setCell ⟨b,j+4,none⟩ f):=
   ((((aL (F:=λk=>k=b) w1 rfl j a).trans (aL (F:=λk=>k=b) _ rfl (j+1) c) (λ_ h=> .inl h)).trans (aL (F:=λk=>k=b) _ rfl (j+2) d) (λ_ h=> .inl h)).trans (aL (F:=λk=>k=b) _ rfl (j+3) e) (λ_ h=> .inl h)).trans (aL (F:=λk=>k=b) _ rfl (j+4) f) (λ_ h=> .inl h)
def ii (w:World) (B g n k:Nat) (R:Nat->PC):Prop:=(∃cur,w.heap[g]? =some (.cells cur 229 (0,0))/\cur.size=n*5)/\∀i,i<k->lE w B g i (R i)
def ii.aw {B:Nat} {R:Nat->PC} (h:ii w B g n k R) (c:aa F w w') (b:¬F g) (e:∀k,F k->k<B):ii w' B g n k R:=by
 obtain⟨⟨cur,a,j⟩,d⟩:=h;exact⟨⟨cur,(c.block g (aq a) b).trans a,j⟩,λi f=>(d i f).aw c b e⟩
def ii.lt {B:Nat} {R:Nat->PC} (h:ii w B g n k R):g<w.heap.size:=by
 obtain⟨⟨cur,a,c⟩,b⟩:=h;exact aq a
def ii.spot {B:Nat} {R:Nat->PC} (h:ii w B g n k R) (d:k<n):∀j,j<5->∃v,w.cell? ⟨g,k*5+j,none⟩=some v:=by
 obtain⟨⟨cur,a,e⟩,b⟩:=h;intro j c;have bq:k*5+j<cur.size:=by omega
 exact⟨cur[k*5+j],aj a (by simp [bq])⟩
def ii.fz {B:Nat} {R:Nat->PC} (h:ii w B g n k R) (j:Nat):w.frozen? (aD g j)=false:=by
 obtain⟨⟨cur,a,c⟩,b⟩:=h;exact ae a j
def ii.snoc {B:Nat} {R:Nat->PC} (h:ii w B g n k R) (O:k<n) (E:g<B) (a:Option Addr) (c:Nat) (G:Src w a (R k).d.length (R k).d) (l:∀y,a=some y->B<=y.block):
  ii (((((w.setCell ⟨g,k*5,none⟩ (.int .i64 ((R k).e:Int))).setCell ⟨g,k*5+1,none⟩ (.int .i64 ((R k).p:Int))).setCell ⟨g,k*5+2,none⟩ (.int .i64 ((R k).i:Int))).setCell ⟨g,k*5+3,none⟩ (.int .i64 ((R k).c:Int))).setCell ⟨g,k*5+4,none⟩ (.slice a (R k).d.length c)) B g n (k+1) R:=by
 obtain⟨⟨cur,m,eE⟩,D⟩:=h;obtain⟨b,Us,aou,t,u,x,z,A,C⟩:=Nx m (j:=k*5) (by omega) (iV ((R k).e:Int)) (iV ((R k).p:Int)) (iV ((R k).i:Int)) (iV ((R k).c:Int)) (.slice a (R k).d.length c);have eZ:=tQ w g (k*5) (iV ((R k).e:Int)) (iV ((R k).p:Int)) (iV ((R k).i:Int)) (iV ((R k).c:Int)) (.slice a (R k).d.length c);refine⟨⟨b,Us,by omega⟩,λi N=>?_⟩;by_cases e:i=k
 .subst e;exact⟨a,c,aj Us t,aj Us u,aj Us x,aj Us z,aj Us A,G.oX eZ (λy f _ e=>by have:=l y f;omega),l⟩
 .obtain⟨s,c',I,J,K,p3,L,M,r⟩:=D i (by omega);have q:∀o v,o<k*5\/k*5+5<=o->w.cell? (aD g o)=some v->(((((w.setCell ⟨g,k*5,none⟩ (.int .i64 ((R k).e:Int))).setCell ⟨g,k*5+1,none⟩ (.int .i64 ((R k).p:Int))).setCell ⟨g,k*5+2,none⟩ (.int .i64 ((R k).i:Int))).setCell ⟨g,k*5+3,none⟩ (.int .i64 ((R k).c:Int))).setCell ⟨g,k*5+4,none⟩ (.slice a (R k).d.length c)).cell? (aD g o)=some v:=λo v F H=>by
   refine aj Us ((C o F).trans ?_);simpa [World.cell?,m] using H
  exact⟨s,c',q _ _ (by omega) I,q _ _ (by omega) J,q _ _ (by omega) K,q _ _ (by omega) p3,q _ _ (by omega) L,M.oX eZ (λy f _ e=>by have:=r y f;omega),r⟩
def Me (lo:Nat) (w:World) (n:Nat) (R:Nat->PC) (v:Value):Prop:=∃g B,v= .slice (some (aD g 0)) n n/\lo<=g/\g<B/\ii w B g n n R
def lE.range {B:Nat} {q:PC} (h:lE w B g i q):∃a k,w.rangeAt g (i*5) (eO (q.e:Int) (q.p:Int) (q.i:Int) (q.c:Int) a q.d.length k).toList/\Src w a q.d.length q.d/\∀y,a=some y->B<=y.block:=by
 obtain⟨a,k,h0,f,l,m,n,o,r⟩:=h;refine⟨a,k,λj v b=>?_,o,r⟩
 match j,b with
 |0,b=>cases b;exact h0
 |1,b=>cases b;exact f
 |2,b=>cases b;exact l
 |3,b=>cases b;exact m
 |4,b=>cases b;exact n
 |j+5,b=>simp at b
def Mf {B:Nat} {R:Nat->PC} (h:ii w B g n n R) (x:n<=256):
  Calls prog 152 #[.slice (some (aD g 0)) n n] w λe w'=>e= .returned (iV ((gN R n:Nat):Int))/\bW w w':=by
 have H:=yh h;go_in;go_wp2;go_loopw [3,8] (λr i wr=>∃k:Nat,k<=n/\i=iV k/\r=iV ((gN R k:Nat):Int)/\bW w wr) (λ_ i _=>n-(intOf i).toNat);case atStart=>exact⟨0,dV _,rfl,rfl,bi _ _⟩
 case round=>
  obtain⟨k,v,rfl,rfl,j⟩:=hrel;by_cases q:k<n
  .have u:(k:Int)<(n:Int):=(by omega);have y:(0:Int)<=(k:Int):=(by omega);obtain⟨a,c,mN,_,_⟩:=((H.o.2 k q).later j).range;have b:=yh mN;have s:=DV R k;have f:=yh (λo=>j.trans ((aJ wr o).mono j.size));by_cases m:(R k).e<=1073741824
   .have t:((R k).e:Int)<=1073741824:=(by omega);have l:Yh (gN R (k+1)=max (gN R k) (R k).e):=(by rw [gN,aG m];exact rfl);go_wp2_with (refine wpList_load_mid rfl 229 _ rfl g (k*5) rfl (eO ((R k).e:Int) ((R k).p:Int) ((R k).i:Int) ((R k).c:Int) a (R k).d.length c).toList _ b.o underlying229 rfl ki ?_);go_roundw;case rel=>exact⟨k+1,by omega,by go_num,by rw [l.out];congr 1;omega,f.o _⟩
    case measure=>simp [intOf];omega
   .have t:¬((R k).e:Int)<=1073741824:=(by omega);have l:Yh (gN R (k+1)=gN R k):=(by rw [gN,aB m];exact rfl);go_wp2_with (refine wpList_load_mid rfl 229 _ rfl g (k*5) rfl (eO ((R k).e:Int) ((R k).p:Int) ((R k).i:Int) ((R k).c:Int) a (R k).d.length c).toList _ b.o underlying229 rfl ki ?_);go_roundw;case rel=>exact⟨k+1,by omega,by go_num,by rw [l.out],f.o _⟩
    case measure=>simp [intOf];omega
  .have u:¬(k:Int)<(n:Int):=(by omega);obtain rfl:k=n:=(by omega);have f:=yh j;go_wp2;go_ret;exact⟨rfl,f.o⟩
section
def Gf (q:PC) (E P i c:Nat):Bool:=decide (q.e=E/\q.p=P/\q.i=i/\q.c=c/\0<q.d.length/\(i+1≠c->q.d.length=492)/\1<=c/\c<=17)
def D0 {q:PC} {E:Nat}:Gf q E P i c=true↔q.ok E P i c/\1<=c/\c<=17:=by
 unfold Gf PC.ok;rw [decide_eq_true_iff];constructor
 .rintro ⟨a,b,d,e,f,g,j,k⟩;exact⟨⟨a,b,d,e,f,g⟩,j,k⟩
 .rintro ⟨⟨a,b,d,e,f,g⟩,j,k⟩;exact⟨a,b,d,e,f,g,j,k⟩
structure SS where
 rs:List (List Int)
 rc:List Int
 hd:Nat
 ps:Nat
 j:Nat
 c:Nat
section
variable (R:Nat->PC) (E T n:Nat)
def SS.due (st:SS) (x:Nat):Nat:=if st.j=0 then (R ((T+x)%n)).c else st.c
def SS.tR (st:SS) (x:Nat):Bool:=Gf (R ((T+x)%n)) E (T+x) st.j (st.due R T n x)
def SS.next (st:SS) (x:Nat):SS:=
 if (R ((T+x)%n)).i+1=(R ((T+x)%n)).c then ⟨st.rs ++ [st.rc ++ (R ((T+x)%n)).d], [],T+x+1,T+x,0,st.due R T n x⟩
 else ⟨st.rs,st.rc ++ (R ((T+x)%n)).d,st.hd,T+x,st.j+1,st.due R T n x⟩
def SS.start:SS:=⟨[], [],T,0,0,0⟩
def sx:List Nat->SS->Option SS
 | [],st=>some st
 |x :: xs,st=>if st.tR R E T n x=true then sx xs (st.next R T n x) else none
end
def CC (R:Nat->PC) (E T n:Nat):∀(xs:List Nat) (a Mg:SS) (x:Nat),sx R E T n xs a=some Mg->Mg.tR R E T n x=true->sx R E T n (xs ++ [x]) a=some (Mg.next R T n x)
 | [],a,Mg,x,h,hg=>by
  cases h;show (if _ then _ else _)=_;rw [aG hg];rfl
 |y :: ys,a,Mg,x,h,hg=>by
  show (if a.tR R E T n y=true then sx R E T n (ys ++ [x]) (a.next R T n y) else none)=_;unfold sx at h;split at h
  .rename_i b;rw [aG b];exact CC R E T n ys _ Mg x h hg
  .cases h
def sy (R:Nat->PC) (E T n:Nat):∀(xs:List Nat) (a Mg:SS) (x:Nat),sx R E T n (xs ++ [x]) a=some Mg->∃s1,sx R E T n xs a=some s1/\s1.tR R E T n x=true/\Mg=s1.next R T n x
 | [],a,Mg,x,h=>by
  have h:(if a.tR R E T n x=true then sx R E T n [] (a.next R T n x) else none)=some Mg:=h;split at h
  .rename_i b;cases h;exact⟨a,rfl,b,rfl⟩
  .cases h
 |y :: ys,a,Mg,x,h=>by
  have h:(if a.tR R E T n y=true then sx R E T n (ys ++ [x]) (a.next R T n y) else none)=some Mg:=h;split at h
  .rename_i b;obtain⟨s1,c,d,e⟩:=sy R E T n ys _ Mg x h;refine⟨s1,?_,d,e⟩;show (if _ then _ else _)=_;rw [aG b];exact c
  .cases h
def zk (R:Nat->PC) (E T n:Nat) (hd:∀i,(R i).d.length<=492) (g:∀i,(R i).c<=65536):∀(k:Nat) (xs:List Nat) (a:SS),xs.length=k->sx R E T n xs (SS.start T)=some a->a.rs.length<=k/\a.rc.length<=492*k/\a.j<=k/\a.c<=65536
 |0,xs,a,hl,h=>by
  obtain rfl:=List.eq_nil_of_length_eq_zero hl;cases h;exact⟨bS _,bS _,bS _,dV _⟩
 |k+1,xs,a,hl,h=>by
  obtain⟨b,x,rfl⟩:∃b x,xs=b ++ [x]:=by
   have dM:xs≠ []:=(by intro e;rw [e] at hl;cases hl);exact⟨xs.dropLast,xs.getLast dM,(List.dropLast_concat_getLast dM).symm⟩
  obtain⟨s1,l,m,rfl⟩:=sy R E T n b _ a x h;have q:=zk R E T n hd g k b s1 (by simpa using hl) l;have o:=hd ((T+x)%n);have p:=g ((T+x)%n);have f:s1.due R T n x<=65536:=by unfold SS.due;split <;> omega
  unfold SS.next;split
  .refine⟨?_,?_,?_,f⟩
   .simp;omega
   .simp
   .simp
  .refine⟨?_,?_,?_,f⟩
   .show s1.rs.length<=_;omega
   .show (s1.rc ++ _).length<=_;rw [ed];omega
   .show s1.j+1<=_;omega
def Rp (R:Nat->PC) (n:Nat) (P:Nat):PC:=R (P%n)
def tS (R:Nat->PC) (n:Nat) (q:Nat):Rp R n (q+n)=Rp R n q:=by unfold Rp;rw [Nat.add_mod_right]
def SS.QZ (R:Nat->PC) (T n:Nat) {a:SS} (b:a.hd+a.j=T+k):a.due R T n k=nF (Rp R n) a.hd a.j a.c:=by
 unfold SS.due nF;split
 .rename_i h;rw [show T+k=a.hd by omega];rfl
 .rfl
def vk (R:Nat->PC) (E T n:Nat):∀(k:Nat) (b:SS),sx R E T n (List.range k) (SS.start T)=some b->Scan (Rp R n) E T b.rs b.hd b.j b.c b.rc/\b.hd+b.j=T+k
 |0,b,h=>by
  cases h;exact⟨Scan.start _ _ _ _,rfl⟩
 |k+1,b,h=>by
  rw [List.range_succ] at h;obtain⟨s1,l,a,rfl⟩:=sy R E T n _ _ b k h;obtain⟨g,f⟩:=vk R E T n k s1 l;have hd:=SS.QZ R T n f;unfold SS.tR at a;rw [D0,hd,<-f] at a;have i:R ((s1.hd+s1.j)%n)=Rp R n (s1.hd+s1.j):=rfl;rw [i] at a;unfold SS.next;rw [hd,<-f,i,a.1.2.2.1,a.1.2.2.2.1];split
  .rename_i d;refine⟨g.full a.1 a.2.2 d _,by show s1.hd+s1.j+1+0=_;omega⟩
  .rename_i d;have bq:s1.j<nF (Rp R n) s1.hd s1.j s1.c:=by
    by_cases e:s1.j=0
    .rw [e] at a⊢;omega
    .have:=(g.c (by omega)).2.2;unfold nF;rw [aB e];exact this
   refine⟨g.grow a.1 a.2.1 a.2.2 d bq,by show s1.hd+(s1.j+1)=_;omega⟩
def Ny (R:Nat->PC) (E T n k:Nat) (a:SS) (h:sx R E T n (List.range k) (SS.start T)=some a) (b:a.tR R E T n k=false):dF (Rp R n) E T a.rs a.hd/\∀c d,¬Rec (Rp R n) E a.hd c d:=by
 obtain⟨f,e⟩:=vk R E T n k a h;refine⟨f.t,f.ends (λg=>?_)⟩;unfold SS.tR at b;rw [(SS.QZ R T n e),<-e] at b;have:=(D0 (q:=Rp R n (a.hd+a.j))).2 g;rw [show R ((a.hd+a.j)%n)=Rp R n (a.hd+a.j) from rfl,this] at b;cases b
def Nz (R:Nat->PC) (E T n:Nat) (e:1<=n) (a:SS) (h:sx R E T n (List.range n) (SS.start T)=some a):dF (Rp R n) E T a.rs a.hd/\∀c d,¬Rec (Rp R n) E a.hd c d:=by
 obtain⟨b,f⟩:=vk R E T n n a h;exact⟨b.t,b.round e (tS R n) f⟩
end
def Q0:(prog.info? 227).map (·.size)=some 4:=by kernel_rfl
abbrev zl (e q i c:Int):Value:= .agg #[iV e,iV q,iV i,iV c]
def Gg (e q i c:Nat) (w:World) (a:c<=100000):
  Calls prog 192 #[zl e q i c] w λr w'=>r= .returned (.bool (decide (i+1=c)))/\bW w w':=by
 have hd:decide (i+1=c)=((i:Int) == (c:Int)-1):=by
  rw [Bool.eq_iff_iff];simp only [decide_eq_true_eq,beq_iff_eq];omega
 rw [hd];go_in;go_wp2;go_ret;exact⟨rfl,(yh (aJ w (.cells #[.int .i64 (e:Int), .int .i64 (q:Int), .int .i64 (i:Int), .int .i64 (c:Int)] 227))).out⟩
def Q2 (e q i c:Nat) (w:World) (d:q<=4294967296) (f:i<=4294967296):
  Calls prog 213 #[zl e q i c] w λr w'=>r= .returned (zl e ((q+1:Nat):Int) ((i+1:Nat):Int) c)/\bW w w':=by
 have a:((q+1:Nat):Int)=(q:Int)+1:=by omega
 have b:((i+1:Nat):Int)=(i:Int)+1:=by omega
 rw [a,b];go_in;go_wp2;exact bodyPost_ret (results_cell_row (P:=prog) rfl _ _ (w.heap.size+1) 227 #[iV (e:Int),iV ((q:Int)+1),iV ((i:Int)+1),iV (c:Int)] (0,0) _ rfl (by have:=heap_alloc_new (w.alloc (.cells #[.int .i64 (e:Int), .int .i64 ((q:Int)+1), .int .i64 ((i:Int)+1), .int .i64 (c:Int)] 227)) (.cells #[.int .i64 (e:Int), .int .i64 ((q:Int)+1), .int .i64 ((i:Int)+1), .int .i64 (c:Int)] 227);rwa [World.size_alloc] at this) underlying227 rfl Q0) rfl ⟨rfl,gX _ _ _⟩
def ac3 (q:PC) (a:Option Addr) (n k:Nat) (E P i c:Nat) (w:World) (h:¬(q.e=E/\q.p=P/\q.i=i/\q.c=c)):
  Calls prog 191 #[lf q.e q.p q.i q.c a n k,zl E P i c] w λr w'=>r= .returned (.bool false)/\bW w w':=by
 go_in;go_wp2;all_goals first|(go_ret;exact⟨rfl,gX _ _ _⟩)|(exfalso;omega)
def Zw (e p i c:Nat) (d:List Int) (a:Option Addr) (k:Nat) (w:World):
  Calls prog 191 #[lf e p i c a d.length k,zl e p i c] w λr w'=>r= .returned (.bool (Gf ⟨e,p,i,c,d⟩ e p i c))/\bW w w':=by
 by_cases q:c<1
 .have YQ:(c:Int)<1:=by omega
  rw [show Gf ⟨e,p,i,c,d⟩ e p i c=false by unfold Gf;rw [decide_eq_false_iff_not];omega];go_in;go_wp2;go_ret;exact⟨rfl,gX _ _ _⟩
 .have YQ:¬(c:Int)<1:=by omega
  by_cases s:17<c
  .have j:17<(c:Int):=(by omega);rw [show Gf ⟨e,p,i,c,d⟩ e p i c=false by unfold Gf;rw [decide_eq_false_iff_not];omega];go_in;go_wp2;go_ret;exact⟨rfl,gX _ _ _⟩
  .have j:¬17<(c:Int):=(by omega);have g:=λwx=>Gg e p i c wx (by omega);have b:=yh (gX w (.cells (eO e p i c a d.length k) 229) (.cells #[.int .i64 (e:Int), .int .i64 (p:Int), .int .i64 (i:Int), .int .i64 (c:Int)] 227));have rC:((w.alloc (.cells (eO e p i c a d.length k) 229)).alloc (.cells #[.int .i64 (e:Int), .int .i64 (p:Int), .int .i64 (i:Int), .int .i64 (c:Int)] 227)).heap[w.heap.size]? =some (.cells (eO e p i c a d.length k) 229 (0,0)):=(Below.heap_alloc _ _ _ (by simp)).trans (heap_alloc_new _ _);have l:=yh rC;by_cases f:i+1=c
   .rw [show Gf ⟨e,p,i,c,d⟩ e p i c=decide (0<d.length) by unfold Gf;rw [decide_eq_decide];constructor;(intro h;exact h.2.2.2.2.1);(intro h;exact⟨rfl,rfl,rfl,rfl,h,λn=>absurd f n,by omega,by omega⟩)];rw [show decide (i+1=c)=true by rw [decide_eq_true_eq];exact f] at g;go_in;go_wp2_with fail;refine(g _).mono ?_;rintro r w1 ⟨rfl,ar⟩;have m:w1.cell? (aD w.heap.size 4)=some (.slice a d.length k):=gG ((ar.block _ (by simp;omega)).trans l.o);go_wp2;go_ret;exact⟨rfl,(yh (b.o.trans (ar.mono b.o.size))).out⟩
   .rw [show Gf ⟨e,p,i,c,d⟩ e p i c=((d.length:Int) == 492) by unfold Gf;rw [Bool.eq_iff_iff];rw [decide_eq_true_iff,beq_iff_eq];constructor;(intro h;have:d.length=492:=h.2.2.2.2.2.1 f;omega);(intro h;exact⟨rfl,rfl,rfl,rfl,by show 0<d.length;omega,λ_=>by show d.length=492;omega,by omega,by omega⟩)];rw [show decide (i+1=c)=false by rw [decide_eq_false_iff_not];exact f] at g;go_in;go_wp2_with fail;refine(g _).mono ?_;rintro r w1 ⟨rfl,ar⟩;have m:w1.cell? (aD w.heap.size 4)=some (.slice a d.length k):=gG ((ar.block _ (by simp;omega)).trans l.o);go_wp2;go_ret;exact⟨rfl,(yh (b.o.trans (ar.mono b.o.size))).out⟩
def Q3 (q:PC) (a:Option Addr) (k:Nat) (E P i c:Nat) (w:World):
  Calls prog 191 #[lf q.e q.p q.i q.c a q.d.length k,zl E P i c] w λr w'=>r= .returned (.bool (Gf q E P i c))/\bW w w':=by
 by_cases h:q.e=E/\q.p=P/\q.i=i/\q.c=c
 .obtain⟨rfl,rfl,rfl,rfl⟩:=h;exact Zw q.e q.p q.i q.c q.d a k w
 .rw [show Gf q E P i c=false by unfold Gf;rw [decide_eq_false_iff_not];exact λb=>h ⟨b.1,b.2.1,b.2.2.1,b.2.2.2.1⟩];exact ac3 q a q.d.length k E P i c w h
section
open Go.RowKit Go.Shelf
attribute [local go_sem] Oper.semAt_some
def Gh (n₀ b c:Nat) (W W':World):Prop:=Below n₀ W W'/\W'.heap[b]? =W.heap[b]?/\W'.heap[c]? =W.heap[c]?
def Gh.t {b:Nat} {A B C:World} (h:Gh n₀ b c A B) (k:Gh n₀ b c B C):Gh n₀ b c A C:=⟨h.1.trans k.1,k.2.1.trans h.2.1,k.2.2.trans h.2.2⟩
def Gh.b {b:Nat} (g:n₀<=w.heap.size) (i:b<w.heap.size) (j:c<w.heap.size) (W:World) (l:Nat) (o a:Obj) (f:w.heap.size<=l) (h:W.heap[l]? =some o) (d:o.isCells=false) (e:o.isWalk=false):Gh n₀ b c W (W.putObj l a):=
   ⟨belowK_b g W l o a f h d e,World.putObj_heap_other (by omega),World.putObj_heap_other (by omega)⟩
def Gh.refl (a b c:Nat) (W:World):Gh a b c W W:=⟨bi _ _,rfl,rfl⟩
structure Gi (w:World) (n₀ g n:Nat) (R:Nat->PC) (A:Nat->Option Addr) (C:Nat->Nat):Prop where
 lt:g<n₀
 p:∀i,i<n->w.rangeAt g (i*5) (eO ((R i).e:Int) ((R i).p:Int) ((R i).i:Int) ((R i).c:Int) (A i) (R i).d.length (C i)).toList
def Gi.below {R:Nat->PC} {A:Nat->Option Addr} {C:Nat->Nat} (h:Gi w n₀ g n R A C) (a:Below n₀ w w'):Gi w' n₀ g n R A C:=
   ⟨h.lt,λi b j v c=>(a.cell (p:=⟨g,i*5+j,none⟩) h.lt).trans (h.p i b j v c)⟩
def Uc (g n T:Nat) (w:World):
  Calls prog 190 #[.slice (some (aD g 0)) n n,iV (T:Int)] w λe w'=>e= .returned (.func (.func 224) #[] #[pQ w.heap.size, .pointer (some ⟨w.heap.size+1,0,none⟩)])/\w'=(w.alloc (.cells #[.slice (some ⟨g,0,none⟩) n n] 186)).alloc (.cells #[.int .i64 (T:Int)] 3):=by
 go_in;go_wp2;go_ret;exact⟨rfl,rfl⟩
def VA (n T:Nat) (R:Nat->PC) (A:Nat->Option Addr) (C:Nat->Nat) (x:Fin n):Array Value:=
   #[iV ((T:Int)+(x.1:Int)),lf ((R ((T+x.1)%n)).e:Int) ((R ((T+x.1)%n)).p:Int) ((R ((T+x.1)%n)).i:Int) ((R ((T+x.1)%n)).c:Int) (A ((T+x.1)%n)) (R ((T+x.1)%n)).d.length (C ((T+x.1)%n))]
def tT {n:Nat} (xs:List (Fin n)) (k:Nat):Prop:=xs.map Fin.val=List.range k
def tT.nil:tT ([]:List (Fin n)) 0:=rfl
def tT.length {xs:List (Fin n)} (h:tT xs k):xs.length=k:=by have:=congrArg List.length h;simpa using this
def tT.snoc {xs:List (Fin n)} (h:tT xs k) (a:k<n):tT (xs ++ [⟨k,a⟩]) (k+1):=by
 unfold tT at*;rw [List.map_append,h,List.range_succ];rfl
def sA {F:Fence} {P:Program} {l f:Nat} {b:Array Value} {a body:Code} {A B:World->Prop}
    (h:RoundIn F n P l f b a body w λe W'=>(e= .returned (.bool true)/\A W')\/(e= .returned (.bool false)/\B W')):
  RoundIn F n P l f b a body w λe W'=>∃r,e= .returned (.bool r)/\(r=true->A W')/\(r=false->B W'):=
 h.mono λe W' h=>by
  rcases h with ⟨rfl,h⟩|⟨rfl,h⟩
  .exact⟨true,rfl,λ_=>h,λe=>by cases e⟩
  .exact⟨false,rfl,λe=>(by cases e),λ_=>h⟩
set_option maxRecDepth 100000 in
def Ud (m:Nat) (P:1<=m) (l c b j g n T:Nat) (R:Nat->PC) (A:Nat->Option Addr) (C:Nat->Nat) (s:1<=n) (mO:n<=256) (N:T<=1073741824) (J o:List (Fin n)->World->Prop)
    (D:∀a (x:Fin n) W,J a W->a.length<n->YieldAt Fence.wide (m-1) prog l (VA n T R A C x) W λe W'=>
     (e= .returned (.bool true)/\J (a ++ [x]) W'/\Gh j c b W W')\/(e= .returned (.bool false)/\o (a ++ [x]) W'))
    (W:World) (J1:W.heap[c]? =some (.cells #[.slice (some ⟨g,0,none⟩) n n] 186 (0,0))) (f:W.heap[b]? =some (.cells #[.int .i64 (T:Int)] 3 (0,0))) (z:Gi W j g n R A C) (y:AbidesFrom W.heap.size J) (h0:J [] W):
  CallsIn Fence.wide m prog 224 #[.func (.yield l) #[] #[],pQ c,pQ b] W λe W'=>(∃v,e= .returned v)/\
     ((∃ys,tT ys n/\J ys W')\/(∃a,(∃k,k<n/\tT a (k+1))/\o a W')):=by
 have yy:=aM J1;refine callsIn_of_wp func224 rfl trivial ?_ rfl;simp only [ntmps224,List.size_toArray,List.length_cons,List.length_nil,Nat.reduceAdd,Nat.reduceSub,Array.replicate_succ,Array.replicate_zero,List.push_toArray,List.append_toArray,List.nil_append,List.cons_append]
 gi_wp2
 gi_loopw [8] (λi wr=>∃(k:Nat) (a:List (Fin n)),k<=n/\i=iV k/\tT a k/\J a wr/\Gh j c b W wr)
    (λi _=>n-(intOf i).toNat)
 case atStart=>exact⟨0, [],dV _,rfl,tT.nil,h0,Gh.refl _ _ _ _⟩
 case round=>
  obtain⟨k,a,O,rfl,lW,Ut,eZ⟩:=hrel;have q:=lW.length;by_cases bq:k<n
  .have eh:=aM (eZ.2.1.trans J1);have o9:=aM (eZ.2.2.trans f);obtain⟨M,u,d,body,F,Zx⟩:=D a ⟨k,bq⟩ wr.drew (y a wr wr.drew none Ut ⟨rfl,rfl,rfl,bS _,λ_ _ _=>rfl⟩ (λr e=>by cases e)) (by omega);have Uu:prog.follows .mixedOrders=true:=(by kernel_rfl);have cC:(k:Int)<(n:Int):=(by omega);have mN:=(z.below eZ.1).p ((T+k)%n) (Nat.mod_lt _ s);have E:=Nat.mod_lt (T+k) s;have Q:((T:Int)+(k:Int)).tmod (n:Int)=(((T+k)%n:Nat):Int):=(by rw [Int.tmod_eq_emod_of_nonneg (by omega),<-Int.natCast_add,<-Int.natCast_emod]);have mg:((T:Int)+(k:Int))%(n:Int)=(((T+k)%n:Nat):Int):=by rw [<-Int.natCast_add,<-Int.natCast_emod]
   dsimp only [VA] at F
   generalize (T+k)%n=x at*;obtain⟨w,H,I,K,L⟩:=eK (mN 0 _ rfl) (mN 1 _ rfl) (mN 2 _ rfl) (mN 3 _ rfl) (mN 4 _ rfl);rw [Nat.add_zero] at w;have aov:(x:Int)<(n:Int):=(by omega);have rC:(0:Int)<=(x:Int):=by omega
   gi_wp2
   gi_region_with_o ((refine(sA Zx).mono ?_;rintro e G ⟨r,rfl,mj,fy⟩;have zm:=mj;have xz:=fy;clear mj fy))
   all_goals
    cases r
    .gi_wp2
     refine bodyPost_ret (results_none rfl _ _ _) rfl ?_;exact⟨⟨_,rfl⟩, .inr ⟨_,⟨k,bq,lW.snoc bq⟩,xz (by simp)⟩⟩
    .gi_wp2
     go_roundw;case rel=>exact⟨k+1,_,by omega,by go_num,lW.snoc bq,(zm (by simp)).1,eZ.t (Gh.t (B:=wr.drew) ⟨ai (bi _ _),rfl,rfl⟩ (zm (by simp)).2)⟩
     case measure=>simp [intOf];omega
  .obtain rfl:k=n:=by omega
   gi_wp2
   go_end0
   exact⟨⟨_,rfl⟩, .inl ⟨a,lW,Ut⟩⟩
def LI (m:Nat) (r:1<=m) (c b d g n T:Nat) (R:Nat->PC) (A:Nat->Option Addr) (C:Nat->Nat) (s:1<=n) (mO:n<=256) (p:T<=1073741824) (w:World) (kZ:d<=w.heap.size)
    (J1:w.heap[c]? =some (.cells #[.slice (some ⟨g,0,none⟩) n n] 186 (0,0))) (a:w.heap[b]? =some (.cells #[.int .i64 (T:Int)] 3 (0,0))) (o:Gi w d g n R A C):
  SeqStopsK Fence.wide m prog 224 #[pQ c,pQ b] (VA n T R A C) (Gh d c b) (λt=>tT t n) (λf=>∃k,k<n/\tT f (k+1)) n w:=
 λl J i W e j _ q h0=>Ud m r l c b d g n T R A C s mO p J i q W ((e.block _ (aq J1)).trans J1) ((e.block _ (aq a)).trans a) (o.below (e.mono kZ)) j h0
end
end Go.Proofs.YtcpdggdfihjhoabGreat
