import Derived.Test.YtenlkgicpllbhaaGreatW01
import Derived.Test.YtenlkgicpllbhaaGreatW04
import Derived.Test.YtenlkgicpllbhaaGreatW05
import Derived.OwnWalk
import Derived.Laws.AppendOwnNone
set_option maxRecDepth 20000
set_option maxHeartbeats 8000000
set_option linter.all false
namespace Go.Proofs.YtenlkgicpllbhaaGreat
open Go.Proofs.Tryz
open Go.RowKit Go.Maps
variable {S:DS} {l:List Int} {g p s:Nat} {F:Nat->Prop} {T:TypeId} {v x y z:Value} {w:World}
theorem lN {r:List Int} (a:l.length=512) (b:r.length=512):am l r=if (sanchor l).1=0/\(sanchor r).1=0 then (0,0, [],30) else if (sanchor l).1<(sanchor r).1 then (1,(sanchor r).1,(sanchor r).2,0) else (0,(sanchor l).1,(sanchor l).2,0):=by
 unfold am;rw [aA (by omega)]
theorem kn (s:List Int):(sanchor s).1<=9223372036854775807:=by
 unfold sanchor;split
 .simp
 .split
  .next h=>simp only;omega
  .simp
def JF (l r:List Int):Nat->Nat×Nat×List Int
 |0=>(0,0, [])
 |1=>if 0<(sanchor l).1 then (0,(sanchor l).1,(sanchor l).2) else (0,0, [])
 |_+2=>if (if 0<(sanchor l).1 then (0,(sanchor l).1,(sanchor l).2) else (0,0,([]:List Int))).2.1<(sanchor r).1 then (1,(sanchor r).1,(sanchor r).2) else if 0<(sanchor l).1 then (0,(sanchor l).1,(sanchor l).2) else (0,0, [])
theorem U5 {r:List Int} (c:l.length=512) (d:r.length=512):JF l r 2=((am l r).1,(am l r).2.1,(am l r).2.2.1):=by
 rw [lN c d];unfold JF;by_cases b:0<(sanchor l).1
 .simp only [aE b];rw [aA (show¬((sanchor l).1=0/\(sanchor r).1=0) by omega)];by_cases a:(sanchor l).1<(sanchor r).1
  .simp only [aE a]
  .simp only [aA a]
 .simp only [aA b];by_cases a:0<(sanchor r).1
  .simp only [aE a];rw [aA (show¬((sanchor l).1=0/\(sanchor r).1=0) by omega),aE (show (sanchor l).1<(sanchor r).1 by omega)]
  .simp only [aA a];rw [aE (show (sanchor l).1=0/\(sanchor r).1=0 by omega)]
theorem ip.agree {w':World} (h:ip w g v l) (f:w'.heap[g]? =w.heap[g]?):ip w' g v l:=by
 obtain⟨a,c,rfl,b,j,d⟩:=h;refine⟨a,c,rfl,⟨b.1,b.2.1,λx e i k=>?_⟩,j,d⟩;rw [World.cell?_of_block (w:=w) (by rw [ku,(d x e)];exact f)];exact b.2.2 x e i k
theorem Y0 {a b c:Value} (h:w.heap[g]? =some (.cells #[a,b,c] T (0,0))):
    (((w.setCell ⟨g,0,none⟩ x).setCell ⟨g,1,none⟩ y).setCell ⟨g,2,none⟩ z).heap[g]? =some (.cells #[x,y,z] T (0,0)):=by
 rw [heap_setCell_same _ _ _ _ _ _ (heap_setCell_same _ _ _ _ _ _ (heap_setCell_same _ _ _ _ _ _ h))];rfl
theorem Y5 (h:w.heap[g]? =some (.cells #[x,y,z] T (0,0))):w.rangeAt g 0 [x,y,z]:=by
 intro j v a;rw [Nat.zero_add];exact aj h (by simpa using a)
theorem JG:(prog.info? 217).map (·.size)=some 3:=by kernel_rfl
theorem JH (w:World) (g:Nat) (x y z:Value):aa (λj=>j=g) w (((w.setCell ⟨g,0,none⟩ x).setCell ⟨g,1,none⟩ y).setCell ⟨g,2,none⟩ z):=
   ((aa.setCell (F:=λj=>j=g) (p:=⟨g,0,none⟩) w rfl x).trans (aa.setCell (F:=λj=>j=g) (p:=⟨g,1,none⟩) _ rfl y) (λ_ h=> .inl h)).trans (aa.setCell (F:=λj=>j=g) (p:=⟨g,2,none⟩) _ rfl z) (λ_ h=> .inl h)
def Nw (w:World) (g:Nat) (l r:List Int) (k:Nat) (wr:World):Prop:=
 ∃v,wr.heap[w.heap.size+1]? =some (.cells #[.int .i64 (((JF l r k).1:Nat):Int), .int .i64 (((JF l r k).2.1:Nat):Int),v] 217 (0,0))/\ip wr g v (JF l r k).2.2/\
    (∃x y z,wr.heap[w.heap.size]? =some (.cells #[x,y,z] 217 (0,0)))/\bW w wr
theorem om (g:Nat) (l r:List Int) (w:World) (s:Src w (some (aD g 0)) 512 l) (bo:Src w (some (aD g 512)) 512 r) (R:Bytes l) (T:Bytes r):
  Calls prog 182 #[pQ g] w λe w'=>∃v,e= .returned (.agg #[iV (((am l r).1:Nat):Int),iV (((am l r).2.1:Nat):Int),v])/\ip w' g v (am l r).2.2.1/\bW w w':=by
 obtain⟨J,K⟩:=bL (λw' (F:bW w w')=>yM g 0 l w' (s.later F) R) (λw' (F:bW w w')=>yM g 512 r w' (bo.later F) T);have W:g<w.heap.size:=s.old _ rfl (by omega);have kR:=yh (U5 s.1 bo.1);clear s bo;go_in;go_wp2;go_loopw [8] (λi wr=>∃k:Nat,k<=2/\i=iV k/\Nw w g l r k wr) (λi _=>2-(intOf i).toNat);case atStart=>exact⟨0,dU _,rfl, .slice none 0 0,heap_alloc2_new _ _ _,ip.nil _ _,⟨_,_,_,heap_alloc2_old _ _ _⟩,((bi _ w).alloc (bP _) _).alloc (by simp) _⟩
 case round=>
  obtain⟨k,X,rfl,E⟩:=hrel;obtain rfl|rfl|rfl:k=0\/k=1\/k=2:=by omega
  .obtain⟨v,aZ,iG,jk,dO⟩:=E;have m:=J.out wr dO;have f:=yh (aF aZ (aF iG (aF jk dO)));clear aZ iG jk dO;generalize QD:JF l r 0=S at*;go_wp2_with fail;refine m.mono ?_;rintro e w1 ⟨U,rfl,cm,aq⟩;obtain⟨b,c,d,iA⟩:=cm;subst d;have cm:ip w1 g _ _:=⟨b,c,rfl,iA⟩;clear iA;obtain⟨aZ,iG,⟨n,p,q,jk⟩,dO⟩:=f.o;have i4:=(aq.block _ (kN.1 aZ).1).trans aZ;have kB:=(aq.block _ (kN.1 jk).1).trans jk;have bK:=dO.trans (aq.mono dO.size);have yN:=iG.later aq;obtain⟨Jl,A2,B7,Y6,Pc,A7,M⟩:=nW (aL i4) (bD i4) (bH i4) (ae i4 0) (ae i4 1) (ae i4 2) bK.size;by_cases h0:S.2.1<(sanchor l).1
   .have O8:((S.2.1:Nat):Int)<(((sanchor l).1:Nat):Int):=(by omega);have a:JF l r 1=(0,(sanchor l).1,(sanchor l).2):=by
     rw [<-QD] at h0;have h0:0<(sanchor l).1:=h0;unfold JF;rw [aE h0]
    have fP:=JH w1 (w.heap.size+1) (iV 0) (iV (((sanchor l).1:Nat):Int)) (.slice b (sanchor l).2.length c);have QE:Nw w g l r 1 (((w1.setCell ⟨w.heap.size+1,0,none⟩ (.int .i64 0)).setCell ⟨w.heap.size+1,1,none⟩ (.int .i64 (((sanchor l).1:Nat):Int))).setCell ⟨w.heap.size+1,2,none⟩ (.slice b (sanchor l).2.length c)):=by
     refine⟨_,by rw [a];exact(Y0 (x:=iV 0) (y:=iV (((sanchor l).1:Nat):Int)) (z:= .slice b (sanchor l).2.length c) i4),by rw [a];exact cm.agree (fP.block g (by omega) (by omega)),⟨n,p,q,(fP.block _ (kN.1 kB).1 (by omega)).trans kB⟩,bK.trans (fP.below (λj L=>by omega) bK.size)⟩
    have Y7:=yh QE;generalize (sanchor l).1=A at*;generalize (sanchor l).2.length=D at*;clear m f aZ iG jk dO i4 kB bK yN fP QE cm aq a;go_wp2;go_roundw;case rel=>exact⟨1,by omega,by go_num,Y7.o⟩
    case measure=>simp [intOf]
   .have O8:¬((S.2.1:Nat):Int)<(((sanchor l).1:Nat):Int):=(by omega);have a:JF l r 1=S:=by
     rw [<-QD] at h0⊢;have h0:¬0<(sanchor l).1:=h0;unfold JF;rw [aA h0]
    have QE:Nw w g l r 1 w1:=⟨v,by rw [a];exact i4,by rw [a];exact yN,⟨n,p,q,kB⟩,bK⟩;have Y7:=yh QE;generalize (sanchor l).1=A at*;generalize (sanchor l).2.length=D at*;clear m f aZ iG jk dO i4 kB bK yN QE cm aq a;go_wp2;go_roundw;case rel=>exact⟨1,by omega,by go_num,Y7.o⟩
    case measure=>simp [intOf]
  .obtain⟨v,aZ,iG,jk,dO⟩:=E;have m:=K.out wr dO;have f:=yh (aF aZ (aF iG (aF jk dO)));clear aZ iG jk dO;generalize QD:JF l r 1=S at*;go_wp2_with fail;refine m.mono ?_;rintro e w1 ⟨U,rfl,cm,aq⟩;obtain⟨b,c,d,iA⟩:=cm;subst d;have cm:ip w1 g _ _:=⟨b,c,rfl,iA⟩;clear iA;obtain⟨aZ,iG,⟨n,p,q,jk⟩,dO⟩:=f.o;have i4:=(aq.block _ (kN.1 aZ).1).trans aZ;have kB:=(aq.block _ (kN.1 jk).1).trans jk;have bK:=dO.trans (aq.mono dO.size);have yN:=iG.later aq;obtain⟨Jl,A2,B7,Y6,Pc,A7,M⟩:=nW (aL i4) (bD i4) (bH i4) (ae i4 0) (ae i4 1) (ae i4 2) bK.size;by_cases h0:S.2.1<(sanchor r).1
   .have O8:((S.2.1:Nat):Int)<(((sanchor r).1:Nat):Int):=(by omega);have a:JF l r 2=(1,(sanchor r).1,(sanchor r).2):=by
     rw [<-QD] at h0;unfold JF at h0⊢;rw [aE h0]
    have fP:=JH w1 (w.heap.size+1) (iV 1) (iV (((sanchor r).1:Nat):Int)) (.slice b (sanchor r).2.length c);have QE:Nw w g l r 2 (((w1.setCell ⟨w.heap.size+1,0,none⟩ (.int .i64 1)).setCell ⟨w.heap.size+1,1,none⟩ (.int .i64 (((sanchor r).1:Nat):Int))).setCell ⟨w.heap.size+1,2,none⟩ (.slice b (sanchor r).2.length c)):=by
     refine⟨_,by rw [a];exact(Y0 (x:=iV 1) (y:=iV (((sanchor r).1:Nat):Int)) (z:= .slice b (sanchor r).2.length c) i4),by rw [a];exact cm.agree (fP.block g (by omega) (by omega)),⟨n,p,q,(fP.block _ (kN.1 kB).1 (by omega)).trans kB⟩,bK.trans (fP.below (λj L=>by omega) bK.size)⟩
    have Y7:=yh QE;generalize (sanchor r).1=A at*;generalize (sanchor r).2.length=D at*;clear m f aZ iG jk dO i4 kB bK yN fP QE cm aq a;go_wp2;go_roundw;case rel=>exact⟨2,by omega,by go_num,Y7.o⟩
    case measure=>simp [intOf]
   .have O8:¬((S.2.1:Nat):Int)<(((sanchor r).1:Nat):Int):=(by omega);have a:JF l r 2=S:=by
     rw [<-QD] at h0⊢;unfold JF at h0⊢;rw [aA h0]
    have QE:Nw w g l r 2 w1:=⟨v,by rw [a];exact i4,by rw [a];exact yN,⟨n,p,q,kB⟩,bK⟩;have Y7:=yh QE;generalize (sanchor r).1=A at*;generalize (sanchor r).2.length=D at*;clear m f aZ iG jk dO i4 kB bK yN QE cm aq a;go_wp2;go_roundw;case rel=>exact⟨2,by omega,by go_num,Y7.o⟩
    case measure=>simp [intOf]
  .obtain⟨v,aZ,iG,⟨n,p,q,jk⟩,dO⟩:=E;rw [kR.o] at aZ iG;obtain⟨b,c,d,iA⟩:=iG;subst d;have iG:ip wr g _ _:=⟨b,c,rfl,iA⟩;clear iA
   dsimp only at aZ iG
   generalize Q:(am l r).2.2.1.length=D at*;obtain⟨Jl,A2,B7,wI,iB,cC,Y6,Pc,A7,oT,fP,M⟩:=BU (aL aZ) (bD aZ) (bH aZ) (aL jk) (bD jk) (bH jk) (ae jk 0) (ae jk 1) (ae jk 2) (Y0 (x:=iV (((am l r).1:Nat):Int)) (y:=iV (((am l r).2.1:Nat):Int)) (z:= .slice b D c) jk) (JH wr w.heap.size (iV (((am l r).1:Nat):Int)) (iV (((am l r).2.1:Nat):Int)) (.slice b D c)) dO.size;have fy:=iG.agree (fP.block g (by omega) (by omega));have eM:=dO.trans (fP.below (λj L=>by omega) dO.size);have t:=yh (aF fy eM);have G:=aL oT;have H:=bD oT;have I:=bH oT;clear aZ iG jk dO fP fy eM kR J K;have sV:=yh (Y5 oT);obtain⟨A,u⟩:=bQ ((am l r).1);obtain⟨B,C⟩:=bQ ((am l r).2.1);rw [<-u] at Jl oT t G H I sV;rw [<-C] at A2 oT t G H I sV;obtain⟨N,O⟩:=bL u C;clear u C Q oT;go_wp2;exact bodyPost_ret (gh (P:=prog) rfl _ _ w.heap.size _ _ rfl sV.out underlying217 rfl JG) rfl ⟨.slice b D c,by rw [<-N.o,<-O.o],t.o⟩
theorem eY {P:Program} {b:Func} {p q r s:Tmp} (h:b.results= #[.tmp p, .tmp q, .tmp r, .tmp s]) (a:Array Value) (w:World):
    (results b a).run P w= .ok (.tuple #[a.getD p undef,a.getD q undef,a.getD r undef,a.getD s undef]) w:=by
 simp [results,h]
theorem jY {r:List Int} (h:l.length=512) (a:r.length=512):(prog.info? 213).map (·.size)=some (bs (l ++ r)).length:=by
 rw [pE,bs,List.length_map,dT,h,a]
theorem qH {r:List Int} (h:jX w T g (l ++ r)) (c:l.length=512) (d:r.length=512):Src w (some (aD g 0)) 512 l/\Src w (some (aD g 512)) 512 r:=by
 have jT:(l ++ r).length=1024:=by simp;omega
 have a:=h.src (o:=0) (n:=512) (by omega);have b:=h.src (o:=512) (n:=512) (by omega);rw [List.drop_zero,List.take_left' c] at a;rw [List.drop_left' c,nh (by omega)] at b;exact⟨a,b⟩
theorem FY (a:Option Addr) (n c:Nat) (l:List Int) (s:Option Addr) (m d:Nat) (r:List Int) (w:World) (y:Src w a n l) (bo:Src w s m r) (M:Bytes l) (N:Bytes r):
  Calls prog 191 #[.slice a n c, .slice s m d] w λe w'=>∃v,e= .returned (.tuple #[iV (((am l r).1:Nat):Int),iV (((am l r).2.1:Nat):Int),v,iV (((am l r).2.2.2:Nat):Int)])/\xy w' w.heap.size v (am l r).2.2.1/\bW w w':=by
 obtain⟨S,h1,A9,uS,aU,bR⟩:=kQ kz (jl a n c l s m d r w y bo) y.1 bo.1 (jY (aS l) (aS r)) (all_oneCell_toArray (cB (bO l ++ bO r)));have rB:(bs (bO l ++ bO r)).length=1024:=by rw [bs,List.length_map,dT,aS,aS]
 obtain⟨F,x⟩:=bQ (bs (bO l ++ bO r));rw [<-x] at h1 aU bR rB;have L:=yh x;clear x y bo;go_in;go_wp2_with fail;refine bE h1 λw1 aq=>?_;have bN:(w1.alloc (.cells cO 213)).heap[w1.heap.size]? =some (.cells cO 213 (0,0)):=heap_alloc_new _ _;have dZ:=cE bN cX;rw [<-rB] at dZ;have bK:bW w (w1.alloc (.cells cO 213)):=aq.alloc aq.size _;have ef:=aq.size;have eM:=bK.trans ((aa.setCells (F:=λj=>j=w1.heap.size) rfl F 0 _).below (λj R=>by omega) bK.size);have aZ:=eE (l:=bO l ++ bO r) bN (by rw [cX,dT,aS,aS]);rw [<-L.o] at aZ;obtain⟨Q,dw⟩:=bQ ((w1.alloc (.cells cO 213)).setCells w1.heap.size 0 F);rw [<-dw] at eM aZ;obtain⟨dE,si,eV⟩:=jS eM aZ dw;clear h1 bN bK aq eM aZ dw;by_cases Fd:n=512/\m=512
 .obtain⟨rfl,rfl⟩:=Fd;rw [(gC A9),(gC uS)] at si;obtain⟨s1,s2⟩:=qH si.o A9 uS;have G:=om w1.heap.size l r Q s1 s2 M N;have Du:=lN A9 uS;have km:(am l r).2.1<=9223372036854775807:=by
   have T:=kn l;have U:=kn r;rw [Du];split
   .simp
   .split <;> simp only <;> omega
  have acA:((am l r).2.1=0/\(am l r).1=0/\(am l r).2.2.1= []/\(am l r).2.2.2=30)\/(0<(am l r).2.1/\(am l r).2.2.2=0):=by
   rw [Du];by_cases q:(sanchor l).1=0/\(sanchor r).1=0
   .rw [aE q];exact .inl ⟨rfl,rfl,rfl,rfl⟩
   .rw [aA q];by_cases H:(sanchor l).1<(sanchor r).1
    .rw [aE H];exact .inr ⟨by simp only;omega,rfl⟩
    .rw [aA H];exact .inr ⟨by simp only;omega,rfl⟩
  clear Du si s1 s2;go_wp2_with (refine wpList_store_mid rfl 213 _ _ rfl w1.heap.size 0 F.toArray rfl rfl ?h1 ?h2 bR ?_);case h1=>simpa using dZ
  case h2=>simpa using aU
  rw [<-eV.o];refine G.mono ?_;rintro e i ⟨v,rfl,iG,bz⟩;obtain⟨I,J,O,C⟩:=iG;subst O;have iG:ip i w1.heap.size _ _:=⟨I,J,rfl,C⟩;have jK:=dE.o.trans (bz.mono dE.o.size);have k:=yh (λw' (h:bW i w')=>aF ((iG.lst ef).later h) (jK.trans (h.mono jK.size)));obtain⟨A,p⟩:=bQ ((am l r).1);obtain⟨B,f⟩:=bQ ((am l r).2.1);obtain⟨D,g⟩:=bQ ((am l r).2.2.1);obtain⟨E,u⟩:=bQ ((am l r).2.2.2);rw [<-p,<-f,<-g,<-u] at acA;rw [<-f] at km;rw [<-g] at k;rw [<-p,<-f,<-g];have b:=yh (aF p (aF f (aF g u)));clear G C iG bz eV dZ aU bR jK dE p f g u;rcases acA with ⟨rfl,rfl,rfl,rfl⟩|⟨Di,rfl⟩
  .go_wp2;exact bodyPost_ret (eY (P:=prog) rfl _ _) rfl ⟨.slice none 0 0,by rw [<-b.o.1,<-b.o.2.1,<-b.o.2.2.2];rfl,by rw [<-b.o.2.2.1];exact xy.nil _ _,(k.o _ ((bi _ i).alloc (bP _) _)).2⟩
  .have abY:((B:Int) == 0)=false:=(by rw [eG];omega);generalize t:D.length=K at*;clear t;go_wp2;go_quiet (fail);go_wp2;exact bodyPost_ret (eY (P:=prog) rfl _ _) rfl ⟨.slice I K J,by rw [<-b.o.1,<-b.o.2.1,<-b.o.2.2.2];rfl,by rw [<-b.o.2.2.1];exact(k.o _ (below_drewN ((bi _ i).alloc (bP _) _) _)).1,(k.o _ (below_drewN ((bi _ i).alloc (bP _) _) _)).2⟩
 .have z:am l r=(0,0, [],2):=by unfold am;rw [aE (by omega)]
  have ie:(decide (n=512) && decide (m=512))=false:=by
   rw [<-Bool.decide_and,decide_eq_false Fd]
  have Pb:=yh z;rw [ie];clear z ie Fd;go_wp2_with (refine wpList_store_mid rfl 213 _ _ rfl w1.heap.size 0 F.toArray rfl rfl ?h1 ?h2 bR ?_);case h1=>simpa using dZ
  case h2=>simpa using aU
  rw [<-eV.o];exact bodyPost_ret (eY (P:=prog) rfl _ _) rfl ⟨.slice none 0 0,by rw [Pb.o];rfl,by rw [Pb.o];exact xy.nil _ _,dE.o⟩
theorem le_top {b:List Int} (a:Bytes b) (h:8<=b.length):le (b.take 8)<9223372036854775808↔b.getD 7 0<=127:=by
 have bm:le (b.take 7)<2 ^ 56:=by
  have:=lg (a.take 7);have c:(b.take 7).length=7:=by rw [List.length_take];omega
  rwa [c] at this
 have d:=a.getD 7;rw [(lq (l:=b) (k:=7) (by omega))];constructor <;> intro h <;> omega
theorem tG {B:List Int} (b:Bytes B) {j:Nat} (a:j<B.length):le (B.drop j)=(B.getD j 0).toNat+256*le (B.drop (j+1)):=by
 rw [List.drop_eq_getElem_cons a];simp [le,List.getD,a]
theorem yO {B:List Int} (a:Bytes B):∀j,le (B.drop j)<=le B
 |0=>bP _
 |j+1=>by
  refine jQ ?_ (yO a j);by_cases b:j<B.length
  .rw [tG a b];omega
  .rw [List.drop_eq_nil_of_le (by omega),List.drop_eq_nil_of_le (by omega)];exact bP _
theorem vT (b o c:Nat) (s:List Int) (w:World) (A:Src w (some (aD b o)) 512 s) (U4:Bytes s):
  Calls prog 197 #[.slice (some (aD b o)) 512 c] w λe w'=>∃v,e= .returned (.tuple #[iV (((sanchor s).1:Nat):Int),v])/\Own w' w.heap.size v (sanchor s).2/\bW w w':=by
 have a:=Cl b o c s w A U4;have mL:=A.1;clear A;cases l7:fv s with
 |none=>
  rw [kx mL l7] at a
  dsimp only at a
  have nS:=yh (fg (.inl l7));clear l7;go_in;go_wp2_with fail;refine a.mono ?_;rintro e w1 ⟨v,rfl,_,aq⟩;have cN:=yh aq;clear a aq;go_wp2;go_ret2;exact⟨_,by rw [nS.o];rfl,by rw [nS.o];exact Own.nil _ _,cN.o⟩
 |some body=>
  have kv:=qD l7 mL;have ie:Bytes body:=by obtain⟨_,_,_,rfl⟩:=oc l7;exact(U4.drop _).take _
  rw [pD mL l7] at a
  dsimp only at a
  by_cases K:body.length<8
  .have iZ:=fg (.inr ⟨_,l7, .inl K⟩);have nS:=yh iZ;have n:(body.length:Int)<8:=(by omega);clear iZ l7;go_in;go_wp2_with fail;refine a.mono ?_;rintro e w1 ⟨v,rfl,d,aq⟩;obtain⟨va,U,rfl,_,_,_⟩:=d.src;have cN:=yh aq;clear a aq d;go_wp2;go_ret2;exact⟨_,by rw [nS.o];rfl,by rw [nS.o];exact Own.nil _ _,cN.o⟩
  .have n:¬(body.length:Int)<8:=(by omega);have DJ:=le_top ie (by omega);by_cases Y:127<body.getD 7 0
   .have iZ:=fg (.inr ⟨_,l7, .inr (by omega)⟩);have nS:=yh iZ;clear iZ l7 DJ;go_in;go_wp2_with fail;refine a.mono ?_;rintro e w1 ⟨v,rfl,d,aq⟩;obtain⟨g,U,rfl,_,k⟩:=d.full (by omega);have f:=k.get (i:=7) (by omega);have cN:=yh aq;have F:(7:Int)<(body.length:Int):=(by omega);clear a aq d k;generalize body.getD 7 0=x at*;generalize body.length=N at*;go_wp2;go_ret2;exact⟨_,by rw [nS.o];rfl,by rw [nS.o];exact Own.nil _ _,cN.o⟩
   .have kC:=tF l7 (by omega) (DJ.2 (by omega));have km:=DJ.2 (by omega);have JE:=yh kC;have M8:(body.take 8).length=8:=(by rw [List.length_take];omega);have Qu:=ie.take 8;clear kC l7 DJ;go_in;go_wp2_with fail;refine a.mono ?_;rintro e w1 ⟨v,rfl,d,aq⟩;obtain⟨g,U,rfl,hg,k⟩:=d.full (by omega);have f:=k.get (i:=7) (by omega);have cN:=yh aq;have E:=yh k;have F:(7:Int)<(body.length:Int):=(by omega);have dr:=aq.size;clear a aq d k;obtain⟨x7,p⟩:=bQ (body.getD 7 0);rw [<-p] at f Y;obtain⟨N,y⟩:=bQ body.length;rw [<-y] at n F kv⊢;clear p;have t:=yh y;clear y K;go_wp2;go_loopw [6,7] (λr i wr=>∃j:Nat,j<=8/\i=iV ((j:Int)-1)/\wr=w1/\r=iV ((le ((body.take 8).drop j):Nat):Int)) (λ_ i _=>(intOf i+1).toNat);case atStart=>exact⟨8,bP _,rfl,rfl,by rw [List.drop_eq_nil_of_le (by omega)];rfl⟩
    case round=>
     clear f;obtain⟨j,hj,rfl,S,rfl⟩:=hrel;have ez:=S.symm;subst ez;clear S;by_cases bm:0<j
     .obtain⟨i,rfl⟩:∃i,j=i+1:=⟨j-1,by omega⟩;have O:=E.o.get (i:=i) (by have:=t.o;omega);have yP:=tG Qu (j:=i) (by omega);have z:=yO Qu i;have J:(body.take 8).getD i 0=body.getD i 0:=(by simp [List.getD,show i<8 by omega]);rw [J] at yP;obtain⟨x,T⟩:∃x:Nat,body.getD i 0=(x:Int):=⟨(body.getD i 0).toNat,by have:=ie.getD i;omega⟩;have l8:x<256:=(by have:=ie.getD i;omega);rw [T] at O yP;simp only [Int.toNat_natCast] at yP;have G:((i+1:Nat):Int)-1=(i:Int):=(by omega);have hiN:(i:Int)<(N:Int):=(by omega);rw [G];generalize L:le ((body.take 8).drop i)=P at*;generalize le ((body.take 8).drop (i+1))=R at*;have uF:((R:Int)*256+(x:Int))=((P:Nat):Int):=(by omega);have hPs:P<9223372036854775808:=(by omega);obtain⟨X,l⟩:=bL L uF;clear yP z J T L G uF;have b1:(R:Int)*256<=9223372036854775807:=(by have:=l.o;omega);go_wp2;go_roundw;case rel=>exact⟨i,by omega,by go_num,trivial,by rw [X.o];exact congrArg (Value.int .i64) (by have:=l.o;omega)⟩
      case measure=>simp [intOf]
     .obtain rfl:j=0:=(by omega);rw [List.drop_zero,show (((0:Nat):Int)-1)= -1 by rfl];generalize Z:le (body.take 8)=M at*;clear Z;go_wp2;go_loopw [8,9] (λv i wx=>∃m:Nat,m<=N-8/\i=iV ((8+m:Nat):Int)/\Own wx w1.heap.size v ((body.drop 8).take m)/\bW w1 wx) (λ_ i _=>N-(intOf i).toNat);case atStart=>exact⟨0,dU _,rfl,Own.nil _ _,bi _ _⟩
      case round=>
       obtain⟨m,hm,rfl,az,lj⟩:=hrel;have bq:=yh az;have T5:=yh lj;have C:=lj.size;clear az lj;have sX:(body.drop 8).length=N-8:=(by rw [List.length_drop,t.o]);by_cases xw:m<N-8
       .have Bm:((8+m:Nat):Int)<(N:Int):=(by omega);have O:=cell_later T5.o (E.o.get (i:=8+m) (by have:=t.o;omega));have u:=jW (body.drop 8) m (by omega);have I:(body.drop 8).getD m 0=body.getD (8+m) 0:=(by simp [List.getD]);rw [I] at u;have Ci:=yh u;have jT:((body.drop 8).take m).length<=504:=(by rw [List.length_take];omega);clear u I;generalize body.getD (8+m) 0=x at*;generalize q:8+m=Q at*;have D:=yh q;clear q;go_wp2_with (at_builtin;refine b9 rfl _ _ rfl w1.heap.size u8 _ x rfl rfl bq.o ?b1 ?b2 ?_);case b1=>omega
        case b2=>exact C
        intro v' w' d eC;have W:Yh (Own w' w1.heap.size v' ((body.drop 8).take (m+1))):=(by rw [<-Ci.o];exact d);have wN:=yh (T5.o.trans (eC.mono (bP _)));clear d eC bq T5 Ci;go_wp2;go_roundw;case rel=>exact⟨m+1,by omega,by have:=D.o;subst this;go_num,W.o,wN.o⟩
        case measure=>have:=D.o;simp [intOf];omega
       .obtain rfl:m=N-8:=(by omega);have Bm:¬((8+(N-8):Nat):Int)<(N:Int):=(by omega);have H:(body.drop 8).take (N-8)=body.drop 8:=nh (by omega);rw [H] at bq;clear H;generalize q:8+(N-8)=Q at*;clear q;go_wp2;go_ret2;exact⟨_,by rw [JE.o];rfl,by rw [JE.o];exact Own.down bq.o dr,cN.o.trans (T5.o.mono dr)⟩
theorem JI (a:Option Addr) (n c:Nat) (b:Option Addr) (m d:Nat) (w:World) (h:n≠512\/m≠512):
  Calls prog 165 #[.slice a n c, .slice b m d] w λe w'=>e= .returned (.tuple #[iV 0,iV 0, .slice none 0 0,iV 2])/\w'=w:=by
 go_in;by_cases g:n=512
 .subst g;have f:(((m:Int)) != 512)=true:=by rw [fT];omega
  go_wp2;exact bodyPost_ret (eY (P:=prog) rfl _ _) rfl ⟨rfl,rfl⟩
 .have f:(((n:Int)) != 512)=true:=by rw [fT];omega
  go_wp2;exact bodyPost_ret (eY (P:=prog) rfl _ _) rfl ⟨rfl,rfl⟩
theorem JJ (b o c:Nat) (l:List Int) (n u d:Nat) (r:List Int) (w:World) (t:Src w (some (aD b o)) 512 l) (bo:Src w (some (aD n u)) 512 r) (H:Bytes l) (I:Bytes r):
  Calls prog 165 #[.slice (some (aD b o)) 512 c, .slice (some (aD n u)) 512 d] w λe w'=>∃v,e= .returned (.tuple #[iV (((am l r).1:Nat):Int),iV (((am l r).2.1:Nat):Int),v,iV (((am l r).2.2.2:Nat):Int)])/\Own w' w.heap.size v (am l r).2.2.1/\bW w w':=by
 have y:=vT b o c l w t H;have Du:=lN t.1 bo.1;have G:=bo;clear t bo;go_in;go_wp2_with fail;refine y.mono ?_;rintro e w1 ⟨K,rfl,tz,aq⟩;have p:=vT n u d r w1 (G.later aq) I;have cN:=aq;have g:=tz;clear y aq tz;obtain⟨A,z⟩:=bQ (sanchor l);obtain⟨B,C⟩:=bQ (sanchor r);rw [<-z] at Du g⊢;rw [<-C] at Du p;have IS:=Du;clear z C Du;go_wp2_with fail;refine p.mono ?_;rintro e M ⟨E,rfl,jo,aW⟩;have dE:=(cN.trans (aW.mono cN.size));have ahS:=(Own.later g aW);have k:=(Own.down jo cN.size);clear p aW jo cN g;by_cases q:A.1=0/\B.1=0
 .have f:am l r=(0,0, [],30):=by rw [IS,aE q]
  obtain⟨D,i⟩:=q;rw [D,i];have a:=f;clear IS D i f;go_wp2;exact bodyPost_ret (eY (P:=prog) rfl _ _) rfl ⟨.slice none 0 0,by rw [a];rfl,by rw [a];exact Own.nil _ _,dE⟩
 .have f:=IS;rw [aA q] at f;by_cases i:A.1<B.1
  .rw [aE i] at f;have a:=f;have m:((A.1:Nat):Int)<((B.1:Nat):Int):=(by omega);have L:((((B.1:Nat):Int)) == 0)=false:=(by rw [eG];omega);clear IS f q i;by_cases j:A.1=0
   .rw [j] at m⊢;generalize bK:B.1=x at*;have cN:=bK;clear bK j;go_wp2;exact bodyPost_ret (eY (P:=prog) rfl _ _) rfl ⟨E,by rw [a];rfl,by rw [a];exact k,dE⟩
   .have J:((((A.1:Nat):Int)) == 0)=false:=(by rw [eG];omega);generalize bK:B.1=x at*;generalize A.1=F at*;clear bK j;go_wp2;exact bodyPost_ret (eY (P:=prog) rfl _ _) rfl ⟨E,by rw [a];rfl,by rw [a];exact k,dE⟩
  .rw [aA i] at f;have a:=f;have m:¬((A.1:Nat):Int)<((B.1:Nat):Int):=(by omega);have J:((((A.1:Nat):Int)) == 0)=false:=(by rw [eG];omega);clear IS f q i;generalize s:A.1=F at*;generalize B.1=x at*;clear s;go_wp2;exact bodyPost_ret (eY (P:=prog) rfl _ _) rfl ⟨K,by rw [a];rfl,by rw [a];exact ahS,dE⟩
theorem mn (a:Option Addr) (n c:Nat) (l:List Int) (f:Option Addr) (m d:Nat) (r:List Int) (w:World) (g:Src w a n l) (bo:Src w f m r) (k:Bytes l) (p:Bytes r):
  Calls prog 165 #[.slice a n c, .slice f m d] w λe w'=>∃v,e= .returned (.tuple #[iV (((am l r).1:Nat):Int),iV (((am l r).2.1:Nat):Int),v,iV (((am l r).2.2.2:Nat):Int)])/\Own w' w.heap.size v (am l r).2.2.1/\bW w w':=by
 by_cases h:n=512/\m=512
 .obtain⟨rfl,rfl⟩:=h;obtain⟨b,o,rfl⟩:=cT g (by omega);obtain⟨i,q,rfl⟩:=cT bo (by omega);exact JJ b o c l i q d r w g bo k p
 .refine(JI a n c f m d w (by omega)).mono ?_;rintro e w' ⟨rfl,rfl⟩;have j:am l r=(0,0, [],2):=by unfold am;rw [aE (by have:=g.1;have:=bo.1;omega)]
  rw [j];exact⟨_,rfl,Own.nil _ _,bi _ _⟩
theorem FZ (l r:List Int):(am l r).2.2.1.length<=512:=by
 have h:∀s:List Int,s.length=512->(sanchor s).2.length<=512:=by
  intro s a;unfold sanchor;cases h:fv s with
  |none=>simp
  |some b=>
   have:=qD h a;simp only;split
   .simp only [List.length_drop];omega
   .simp
 unfold am;split
 .simp
 .next hh=>
  split
  .simp
  .split
   .exact h r (by omega)
   .exact h l (by omega)
theorem iH (w:World) {b:Array Oper} {rest:List Oper} {o:Oper} {a:Act} {Q:Exit->Act->World->Prop}
    (p:o.guard=none) (l c:Operand) (l7:o.op=Op.makeSlice 36 l c) (C:Int) (m n:Nat) (r:a.eval l=iV (m:Int)) (k:a.eval c=iV C) (g:C=(n:Int)) (s:m<=n) (t:n<=140737488355328)
    (j:∀w',jX w' 5 w.heap.size (zs n)->bW w w'->wpList prog b Q rest (a.put o.dst (.slice (some (aD w.heap.size 0)) m n)) w'):
  wpList prog b Q (o :: rest) a w:=by
 refine wpList_plain p λK Br=>?_;obtain⟨i,q,gv,dr,ec⟩:=info_parts fW;subst g;have f:=run_make (P:=prog) w 36 5 i (.int .u8 0) underlying36 q gv .i64 .i64 (m:Int) (n:Int) (by omega) (by omega) (by rw [ec];omega) (by omega);simp only [Int.toNat_natCast,dr,Nat.mul_one] at f;unfold Oper.wp;simp [execOp,l7,r,k,f,Result.andThen];refine Br _ _ (j _ ?_ ?_)
 .have d:=heap_alloc_new w (.cells (madeCells (Value.int .u8 0).cells n) 5);have e:madeCells (Value.int .u8 0).cells n=(bs (zs n)).toArray:=by
   apply Array.ext';have:(Value.int .u8 0).cells= #[Value.int .u8 0]:=rfl;rw [this,toList_madeCells_one];simp [bs,zs]
  rw [e] at d;unfold jX;rw [<-d];simp [e]
 .exact(bi _ w).alloc (bP _) _
theorem U6 (n:Nat):leb 8 n=aQ n:=by
 rw [Cf];simp only [leb,Nat.div_div_eq_div_mul]
theorem LW {B n:Nat} {p q:List Int} (h:jX w 5 g (p ++ q)) (a:B<=g) (c:n=(p ++ q).length) (b:n<=maxLen):Own w B (.slice (some (aD g 0)) p.length n) p:=by
 subst c;refine⟨by simp [bs], .inr ⟨g,(p ++ q).length,_,rfl,a,h,by simp,b,by simp [bs],?_⟩⟩;rw [iE];simp [bs]
theorem pF (N:Nat) (a:Option Addr) (n c:Nat) (l:List Int) (w:World) (s:N<9223372036854775808) (b:Src w a n l) (t:n<=496) (tk:a=none->c=0):
  Calls prog 186 #[iV (N:Int), .slice a n c] w λe w'=>∃v,e= .returned v/\Own w' w.heap.size v (aQ N ++ l)/\bW w w':=by
 obtain⟨k,d,gv,dr,ec⟩:=info_parts fW;have g:=b.1;go_in;go_wp2_with (at_make;refine iH _ rfl _ _ rfl _ 8 (8+n) rfl rfl ?c1 ?c2 ?c3 ?_);case c1=>omega
 case c2=>omega
 case c3=>omega
 intro w1 aZ aq;have cm:=DE w.heap.size 0 8 (8+n) N 5 (zs (8+n)) w1 aZ (by omega) (by rw [bB];omega);have r:put (zs (8+n)) 0 (leb 8 N)=aQ N ++ zs n:=by
  rw [U6,put,lM,dN];simp only [List.take_zero,List.nil_append,Nat.zero_add];rw [List.drop_left' (bB 8)]
 rw [r] at cm;go_wp2_with fail;refine oX cm λo acB aX aoG=>?_;have eM:=aq.trans (aX.below (λj f=>by omega) aq.size);have az:=LW acB (bP _) (by rw [dT,dN,bB]) (by unfold maxLen;omega);rw [dN] at az;have aY:o.ownsRow w.heap.size 5 1 (.slice (some (aD w.heap.size 0)) 8 (8+n)) 8 (bs (aQ N)):=by
  have:=az;unfold Own at this;rwa [dN] at this
 have i:=eM.size;cases a with
 |none=>
  have kT:=b.2.1 rfl;subst kT;have vJ:=List.eq_nil_of_length_eq_zero g;subst vJ;have Jl:=tk rfl;subst Jl;go_wp2_with (at_builtin;refine wpList_append_own_none rfl _ _ 36 rfl w.heap.size 5 k 1 underlying36 d _ 8 (bs (aQ N)) rfl aY rfl ?_);go_ret;exact⟨_,rfl,by rw [List.append_nil];exact az,eM⟩
 |some x=>
  have uT:=(λj u (f:(bs l)[j]? =some u)=>show o.cell? (x.add j)=some u by
   obtain⟨YQ,rfl⟩:=fq f;exact cell_later eM (b.2.2 _ rfl j (by omega)))
  have jT:(bs l).length=n:=by rw [bs,List.length_map,g]
  go_wp2_with (at_builtin;refine wpList_append_own _ rfl _ _ 36 rfl w.heap.size 5 k (.int .u8 0) 1 1 underlying36 d gv dr ec rfl (by decide) _ 8 (bs (aQ N)) rfl aY x n c (bs l) rfl ?n0 uT ?n2 ?n3 ?n4 ?n5 ?_);case n0=>omega
  case n2=>exact cB _
  case n3=>unfold maxLen;omega
  case n4=>omega
  case n5=>exact i
  intro y z cJ kU _;rw [<-iE] at cJ;have p:=(DC (m:=aQ N ++ l) cJ (by rw [dT,dN];omega) rfl);go_wp2;go_ret;exact⟨_,rfl,p,eM.grown kU i (λq e=>(aY.lt q e).1)⟩
theorem Co (s n:Nat) (v:Value) (w:World) (c:s<=1):
  Calls prog 183 #[.agg #[iV (s:Int),iV (n:Int),v]] w λe w'=>e= .returned (iV ((if n=0 then 0 else 1-s:Nat):Int))/\bW w w':=by
 have a:=((bi w.heap.size w).alloc (bP _) (.cells #[.int .i64 (s:Int), .int .i64 (n:Int),v] 217));go_in;by_cases h:n=0
 .subst h;go_wp2;go_ret;exact⟨rfl,a⟩
 .have b:((n:Int) == 0)=false:=by rw [eG];omega
  have e:((if n=0 then 0 else 1-s:Nat):Int)=1-(s:Int):=by rw [aA h];omega
  rw [e];go_wp2;go_ret;exact⟨rfl,a⟩
theorem M9 (a:Option Addr) (n c:Nat) (l:List Int) (b:Option Addr) (m d:Nat) (r:List Int) (k:Option Addr) (q p:Nat) (num:Int) (w:World) (g:Src w a n l) (bo:Src w b m r) (iZ:¬(n=512/\m=512)):
  Calls prog 148 #[.slice a n c, .slice b m d,iV num, .slice k q p] w λe w'=>e= .returned (.tuple #[iV 0, .slice none 0 0,iV 2])/\bW w w':=by
 have Fd:(decide (n=512) && decide (m=512))=false:=by rw [<-Bool.decide_and,decide_eq_false iZ]
 clear iZ;obtain⟨t,h1,aU,bR⟩:=cM kz (jl a n c l b m d r w g bo) (jY (aS l) (aS r)) (all_oneCell_toArray (cB (bO l ++ bO r)));have rB:(bs (bO l ++ bO r)).length=1024:=by rw [bs,List.length_map,dT,aS,aS]
 obtain⟨F,f⟩:=bQ (bs (bO l ++ bO r));rw [<-f] at h1 aU bR rB;have i:=yh f;clear f g bo;go_in;go_wp2_with fail;refine bE h1 λw1 aq=>?_;have bN:(w1.alloc (.cells cO 213)).heap[w1.heap.size]? =some (.cells cO 213 (0,0)):=heap_alloc_new _ _;have dZ:=cE bN cX;rw [<-rB] at dZ;have bK:bW w (w1.alloc (.cells cO 213)):=aq.alloc aq.size _;have ef:=aq.size;have eM:=bK.trans ((aa.setCells (F:=λj=>j=w1.heap.size) rfl F 0 _).below (λj s=>by omega) bK.size);have aZ:=eE (l:=bO l ++ bO r) bN (by rw [cX,dT,aS,aS]);rw [<-i.o] at aZ;obtain⟨u,dw⟩:=bQ ((w1.alloc (.cells cO 213)).setCells w1.heap.size 0 F);rw [<-dw] at eM aZ;obtain⟨dE,eV⟩:=bL eM dw;clear h1 bN bK aq eM aZ dw;rw [Fd];go_wp2_with (refine wpList_store_mid rfl 213 _ _ rfl w1.heap.size 0 F.toArray rfl rfl ?h1 ?h2 bR ?_);case h1=>simpa using dZ
 case h2=>simpa using aU
 rw [<-eV.o];go_ret3;exact⟨rfl,dE.o⟩
theorem Na (a:Option Addr) (n c:Nat) (l:List Int) (b:Option Addr) (m d:Nat) (r:List Int) (k:Option Addr) (q p:Nat) (num:Int) (w:World) (g:Src w a n l) (bo:Src w b m r) (kC:n=512/\m=512) (s:num<1):
  Calls prog 148 #[.slice a n c, .slice b m d,iV num, .slice k q p] w λe w'=>e= .returned (.tuple #[iV 0, .slice none 0 0,iV 1])/\bW w w':=by
 have Fd:(decide (n=512) && decide (m=512))=true:=by rw [<-Bool.decide_and,decide_eq_true kC]
 clear kC;obtain⟨u,h1,aU,bR⟩:=cM kz (jl a n c l b m d r w g bo) (jY (aS l) (aS r)) (all_oneCell_toArray (cB (bO l ++ bO r)));have rB:(bs (bO l ++ bO r)).length=1024:=by rw [bs,List.length_map,dT,aS,aS]
 obtain⟨F,f⟩:=bQ (bs (bO l ++ bO r));rw [<-f] at h1 aU bR rB;have i:=yh f;clear f g bo;go_in;go_wp2_with fail;refine bE h1 λw1 aq=>?_;have bN:(w1.alloc (.cells cO 213)).heap[w1.heap.size]? =some (.cells cO 213 (0,0)):=heap_alloc_new _ _;have dZ:=cE bN cX;rw [<-rB] at dZ;have bK:bW w (w1.alloc (.cells cO 213)):=aq.alloc aq.size _;have ef:=aq.size;have eM:=bK.trans ((aa.setCells (F:=λj=>j=w1.heap.size) rfl F 0 _).below (λj t=>by omega) bK.size);have aZ:=eE (l:=bO l ++ bO r) bN (by rw [cX,dT,aS,aS]);rw [<-i.o] at aZ;obtain⟨v,dw⟩:=bQ ((w1.alloc (.cells cO 213)).setCells w1.heap.size 0 F);rw [<-dw] at eM aZ;obtain⟨dE,eV⟩:=bL eM dw;clear h1 bN bK aq eM aZ dw;rw [Fd];go_wp2_with (refine wpList_store_mid rfl 213 _ _ rfl w1.heap.size 0 F.toArray rfl rfl ?h1 ?h2 bR ?_);case h1=>simpa using dZ
 case h2=>simpa using aU
 rw [<-eV.o];go_ret3;exact⟨rfl,dE.o⟩
theorem Nb (a:Option Addr) (n c:Nat) (l:List Int) (b:Option Addr) (m d:Nat) (r:List Int) (k:Option Addr) (q p:Nat) (num:Int) (w:World) (g:Src w a n l) (bo:Src w b m r) (kC:n=512/\m=512) (s:¬num<1) (t:496<q):
  Calls prog 148 #[.slice a n c, .slice b m d,iV num, .slice k q p] w λe w'=>e= .returned (.tuple #[iV 0, .slice none 0 0,iV 7])/\bW w w':=by
 have Fd:(decide (n=512) && decide (m=512))=true:=by rw [<-Bool.decide_and,decide_eq_true kC]
 have aoH:496<(q:Int):=by omega
 clear kC;obtain⟨v,h1,aU,bR⟩:=cM kz (jl a n c l b m d r w g bo) (jY (aS l) (aS r)) (all_oneCell_toArray (cB (bO l ++ bO r)));have rB:(bs (bO l ++ bO r)).length=1024:=by rw [bs,List.length_map,dT,aS,aS]
 obtain⟨F,f⟩:=bQ (bs (bO l ++ bO r));rw [<-f] at h1 aU bR rB;have i:=yh f;clear f g bo;go_in;go_wp2_with fail;refine bE h1 λw1 aq=>?_;have bN:(w1.alloc (.cells cO 213)).heap[w1.heap.size]? =some (.cells cO 213 (0,0)):=heap_alloc_new _ _;have dZ:=cE bN cX;rw [<-rB] at dZ;have bK:bW w (w1.alloc (.cells cO 213)):=aq.alloc aq.size _;have ef:=aq.size;have eM:=bK.trans ((aa.setCells (F:=λj=>j=w1.heap.size) rfl F 0 _).below (λj u=>by omega) bK.size);have aZ:=eE (l:=bO l ++ bO r) bN (by rw [cX,dT,aS,aS]);rw [<-i.o] at aZ;obtain⟨x,dw⟩:=bQ ((w1.alloc (.cells cO 213)).setCells w1.heap.size 0 F);rw [<-dw] at eM aZ;obtain⟨dE,eV⟩:=bL eM dw;clear h1 bN bK aq eM aZ dw;rw [Fd];go_wp2_with (refine wpList_store_mid rfl 213 _ _ rfl w1.heap.size 0 F.toArray rfl rfl ?h1 ?h2 bR ?_);case h1=>simpa using dZ
 case h2=>simpa using aU
 rw [<-eV.o];go_ret3;exact⟨rfl,dE.o⟩
theorem Nc (a:Option Addr) (n c:Nat) (l:List Int) (b:Option Addr) (m d:Nat) (r:List Int) (p:Option Addr) (q s:Nat) (num:Int) (w:World) (g:Src w a n l) (bo:Src w b m r) (x:Bytes l) (z:Bytes r) (kC:n=512/\m=512) (t:¬num<1) (u:q<=496) (U7:num<=(((am l r).2.1:Nat):Int)):
  Calls prog 148 #[.slice a n c, .slice b m d,iV num, .slice p q s] w λe w'=>e= .returned (.tuple #[iV 0, .slice none 0 0,iV 31])/\bW w w':=by
 obtain⟨QF,xB⟩:=kC;subst QF;subst xB;have Fd:(decide (512=512) && decide (512=512))=true:=rfl;have Xr:=yh U7;clear U7;obtain⟨J,h1,A9,uS,aU,bR⟩:=kQ kz (jl a 512 c l b 512 d r w g bo) g.1 bo.1 (jY (aS l) (aS r)) (all_oneCell_toArray (cB (bO l ++ bO r)));have rB:(bs (bO l ++ bO r)).length=1024:=by rw [bs,List.length_map,dT,aS,aS]
 obtain⟨F,f⟩:=bQ (bs (bO l ++ bO r));rw [<-f] at h1 aU bR rB;have k:=yh f;clear f g bo;go_in;go_wp2_with fail;refine bE h1 λw1 aq=>?_;have bN:(w1.alloc (.cells cO 213)).heap[w1.heap.size]? =some (.cells cO 213 (0,0)):=heap_alloc_new _ _;have dZ:=cE bN cX;rw [<-rB] at dZ;have bK:bW w (w1.alloc (.cells cO 213)):=aq.alloc aq.size _;have ef:=aq.size;have eM:=bK.trans ((aa.setCells (F:=λj=>j=w1.heap.size) rfl F 0 _).below (λj I=>by omega) bK.size);have aZ:=eE (l:=bO l ++ bO r) bN (by rw [cX,dT,aS,aS]);rw [<-k.o] at aZ;obtain⟨H,dw⟩:=bQ ((w1.alloc (.cells cO 213)).setCells w1.heap.size 0 F);rw [<-dw] at eM aZ;obtain⟨dE,si,eV⟩:=jS eM aZ dw;clear h1 bN bK aq eM aZ dw;rw [Fd];rw [(gC A9),(gC uS)] at si;obtain⟨s1,s2⟩:=qH si.o A9 uS;have i:=om w1.heap.size l r H s1 s2 x z;clear s1 s2 si;go_wp2_with (refine wpList_store_mid rfl 213 _ _ rfl w1.heap.size 0 F.toArray rfl rfl ?h1 ?h2 bR ?_);case h1=>simpa using dZ
 case h2=>simpa using aU
 rw [<-eV.o];refine i.mono ?_;rintro e K ⟨v,rfl,iG,bz⟩;obtain⟨E,G,C,y⟩:=iG;subst C;have fS:=yh ((dE.o.trans (bz.mono dE.o.size)).alloc (jQ dE.o.size bz.size) (.cells #[.int .i64 (((am l r).1:Nat):Int), .int .i64 (((am l r).2.1:Nat):Int), .slice E (am l r).2.2.1.length G] 217));clear i y bz eV dZ aU bR dE;have U7:=Xr.o;clear Xr;generalize (am l r).1=A at*;generalize (am l r).2.1=B at*;generalize (am l r).2.2.1.length=D at*;go_wp2;go_ret3;exact⟨rfl,fS.o⟩
theorem Nd (a:Option Addr) (n c:Nat) (l:List Int) (p:Option Addr) (m d:Nat) (r:List Int) (k:Option Addr) (q x:Nat) (b:List Int) (num:Int) (w:World) (H:Src w a n l) (bo:Src w p m r) (hl:Bytes l) (hr:Bytes r) (kC:n=512/\m=512) (N:Nat) (dP:num=(N:Int)) (uU:1<=N) (Xs:N<9223372036854775808) (fB:Src w k q b) (LX:Bytes b) (y:q<=496) (tk:k=none->x=0) (U7:(am l r).2.1<N) (O:(am l r).1<=1) (F0:(if (am l r).2.1=0 then 0 else 1-(am l r).1)=0):
  Calls prog 148 #[.slice a n c, .slice p m d,iV num, .slice k q x] w λe w'=>∃g,e= .returned (.tuple #[iV 0, .slice (some (aD g 0)) 512 512,iV 0])/\jX w' 211 g (be (cD (l.getD 0 0) (l.getD 511 0)) (aQ N ++ b))/\w.heap.size<=g/\bW w w':=by
 subst dP;obtain⟨QF,xB⟩:=kC;subst QF;subst xB;have Fd:(decide (512=512) && decide (512=512))=true:=rfl;obtain⟨Xr,L,F6⟩:=jS U7 O F0;clear U7 O F0;obtain⟨T,sX,ec,hz,h1,A9,uS,aU,bR⟩:=UD (yh fB) fB.1 jc kz (jl a 512 c l p 512 d r w H bo) H.1 bo.1 (jY (aS l) (aS r)) (all_oneCell_toArray (cB (bO l ++ bO r)));have rB:(bs (bO l ++ bO r)).length=1024:=by rw [bs,List.length_map,dT,aS,aS]
 obtain⟨F,z⟩:=bQ (bs (bO l ++ bO r));rw [<-z] at h1 aU bR rB;have U:=yh z;clear z H bo fB;go_in;go_wp2_with fail;refine bE h1 λw1 aq=>?_;have bN:(w1.alloc (.cells cO 213)).heap[w1.heap.size]? =some (.cells cO 213 (0,0)):=heap_alloc_new _ _;have dZ:=cE bN cX;rw [<-rB] at dZ;have bK:bW w (w1.alloc (.cells cO 213)):=aq.alloc aq.size _;have ef:=aq.size;have eM:=bK.trans ((aa.setCells (F:=λj=>j=w1.heap.size) rfl F 0 _).below (λj Z=>by omega) bK.size);have aZ:=eE (l:=bO l ++ bO r) bN (by rw [cX,dT,aS,aS]);rw [<-U.o] at aZ;obtain⟨w2,dw⟩:=bQ ((w1.alloc (.cells cO 213)).setCells w1.heap.size 0 F);rw [<-dw] at eM aZ;obtain⟨dE,si,eV⟩:=jS eM aZ dw;clear h1 bN bK aq eM aZ dw;rw [Fd];rw [(gC A9),(gC uS)] at si;obtain⟨s1,s2⟩:=qH si.o A9 uS;have Q:=om w1.heap.size l r w2 s1 s2 hl hr;have oN:=yh s1;clear s1 s2 si;go_wp2_with (refine wpList_store_mid rfl 213 _ _ rfl w1.heap.size 0 F.toArray rfl rfl ?h1 ?h2 bR ?_);case h1=>simpa using dZ
 case h2=>simpa using aU
 rw [<-eV.o];refine Q.mono ?_;rintro e K ⟨v,rfl,iG,bz⟩;obtain⟨R,S,hv,hq⟩:=iG;subst hv;have jK:=dE.o.trans (bz.mono dE.o.size);have fe:bW K (K.alloc (.cells #[.int .i64 (((am l r).1:Nat):Int), .int .i64 (((am l r).2.1:Nat):Int), .slice R (am l r).2.2.1.length S] 217)):=(bi _ K).alloc (bP _) _;obtain⟨jB,M,E⟩:=jS (jK.trans (fe.mono jK.size)) ((oN.o.later bz).later fe) (λw'=>Co (am l r).1 (am l r).2.1 (.slice R (am l r).2.2.1.length S) w' L.o);rw [F6.o] at E;have ahU:¬(N:Int)<=(((am l r).2.1:Nat):Int):=by have:=Xr.o;omega
 clear Xr L F6;clear Q hq bz eV dZ aU bR dE jK fe oN;generalize (am l r).1=A at*;generalize (am l r).2.1=B at*;generalize (am l r).2.2.1.length=D at*;go_wp2_with fail;refine(E.out _).mono ?_;rintro e w5 ⟨rfl,ff⟩;obtain⟨jd,Y8⟩:=bL (jB.o.trans (ff.mono jB.o.size)) (M.o.later ff);have s:=Y8.o.2.2 _ rfl 0 (by omega);have u:=Y8.o.2.2 _ rfl 511 (by omega);rw [aK] at s u;have I:=oe w1.heap.size 0 (l.getD 0 0) (l.getD 511 0) w5 s u;have ht:=gd (l.getD 0 0) (l.getD 511 0);obtain⟨t,wK⟩:=bQ (cD (l.getD 0 0) (l.getD 511 0));rw [<-wK] at ht I;have Qt:=yh wK;clear E ff jB M s u wK;go_wp2_with fail;refine bE I λw' P=>?_;have ez:=P.symm;subst ez;clear P I;go_wp2_with fail;refine(pF N k q x b w5 Xs (T.o.later jd.o) y tk).mono ?_;rintro e w6 ⟨v6,rfl,Xp,ny⟩;obtain⟨p6,Y,rfl,T6,_,_⟩:=Xp.src;have kv:(aQ N ++ b).length=8+q:=by rw [dT,dN,sX]
 rw [kv] at T6⊢;have wO:=yh (jd.o.trans (ny.mono jd.o.size));have J:=oh t p6 (8+q) Y (aQ N ++ b) w6 (by omega) T6 (by omega) ((iC N).append LX);have jL:(be t (aQ N ++ b)).length=512:=fj (by omega);have yQ:=iY (l:=be t (aQ N ++ b)) jL;have F8:=all_oneCell_toArray (cB (be t (aQ N ++ b)));have DG:(bs (be t (aQ N ++ b))).length=512:=by rw [bs,List.length_map,jL]
 obtain⟨G,C⟩:=bQ (bs (be t (aQ N ++ b)));rw [<-C] at J yQ F8 DG;have W:=yh C;clear Xp ny T6 jd C;generalize 8+q=Q8 at*;go_wp2_with fail;refine bE J λf vU=>?_;have Bq:=wO.o.trans (vU.mono wO.o.size);have T7:(f.alloc (.cells bh 211)).heap[f.heap.size]? =some (.cells bh 211 (0,0)):=heap_alloc_new _ _;have dZ:=cE T7 cI;rw [<-DG] at dZ;have aZ:=eE (l:=be t (aQ N ++ b)) T7 (by rw [cI,jL]);rw [<-W.o] at aZ;have ahV:=Bq.size;have M7:bW w (f.alloc (.cells bh 211)):=Bq.alloc Bq.size _;have i:=M7.trans ((aa.setCells (F:=λj=>j=f.heap.size) rfl G 0 _).below (λj Z=>by omega) M7.size);rw [Qt.o] at aZ;have X:=yh (λj=>aF (aZ.au (w':=((f.alloc (.cells bh 211)).setCells f.heap.size 0 G).drewN j) rfl) (aF Bq.size (below_drewN i j)));clear J vU Bq T7 aZ M7 i wO;go_wp2_with (refine wpList_store_mid rfl 211 _ _ rfl f.heap.size 0 G.toArray rfl rfl ?h1 ?h2 F8 ?_);case h1=>simpa using dZ
 case h2=>simpa using yQ
 go_quiet (fail);go_wp2;go_ret3;exact⟨f.heap.size,rfl,X.o _⟩
theorem Ne (a:Option Addr) (n c:Nat) (l:List Int) (p:Option Addr) (m d:Nat) (r:List Int) (k:Option Addr) (q x:Nat) (b:List Int) (num:Int) (w:World) (H:Src w a n l) (bo:Src w p m r) (hl:Bytes l) (hr:Bytes r) (kC:n=512/\m=512) (N:Nat) (dP:num=(N:Int)) (uU:1<=N) (Xs:N<9223372036854775808) (fB:Src w k q b) (LX:Bytes b) (y:q<=496) (tk:k=none->x=0) (U7:(am l r).2.1<N) (O:(am l r).1<=1) (F0:(if (am l r).2.1=0 then 0 else 1-(am l r).1)=1):
  Calls prog 148 #[.slice a n c, .slice p m d,iV num, .slice k q x] w λe w'=>∃g,e= .returned (.tuple #[iV 1, .slice (some (aD g 0)) 512 512,iV 0])/\jX w' 211 g (be (cD (r.getD 0 0) (r.getD 511 0)) (aQ N ++ b))/\w.heap.size<=g/\bW w w':=by
 subst dP;obtain⟨QF,xB⟩:=kC;subst QF;subst xB;have Fd:(decide (512=512) && decide (512=512))=true:=rfl;obtain⟨Xr,L,F6⟩:=jS U7 O F0;clear U7 O F0;obtain⟨T,sX,ec,hz,h1,A9,uS,aU,bR⟩:=UD (yh fB) fB.1 jc kz (jl a 512 c l p 512 d r w H bo) H.1 bo.1 (jY (aS l) (aS r)) (all_oneCell_toArray (cB (bO l ++ bO r)));have rB:(bs (bO l ++ bO r)).length=1024:=by rw [bs,List.length_map,dT,aS,aS]
 obtain⟨F,z⟩:=bQ (bs (bO l ++ bO r));rw [<-z] at h1 aU bR rB;have U:=yh z;clear z H bo fB;go_in;go_wp2_with fail;refine bE h1 λw1 aq=>?_;have bN:(w1.alloc (.cells cO 213)).heap[w1.heap.size]? =some (.cells cO 213 (0,0)):=heap_alloc_new _ _;have dZ:=cE bN cX;rw [<-rB] at dZ;have bK:bW w (w1.alloc (.cells cO 213)):=aq.alloc aq.size _;have ef:=aq.size;have eM:=bK.trans ((aa.setCells (F:=λj=>j=w1.heap.size) rfl F 0 _).below (λj Z=>by omega) bK.size);have aZ:=eE (l:=bO l ++ bO r) bN (by rw [cX,dT,aS,aS]);rw [<-U.o] at aZ;obtain⟨w2,dw⟩:=bQ ((w1.alloc (.cells cO 213)).setCells w1.heap.size 0 F);rw [<-dw] at eM aZ;obtain⟨dE,si,eV⟩:=jS eM aZ dw;clear h1 bN bK aq eM aZ dw;rw [Fd];rw [(gC A9),(gC uS)] at si;obtain⟨s1,s2⟩:=qH si.o A9 uS;have Q:=om w1.heap.size l r w2 s1 s2 hl hr;have wR:=yh s2;clear s1 s2 si;go_wp2_with (refine wpList_store_mid rfl 213 _ _ rfl w1.heap.size 0 F.toArray rfl rfl ?h1 ?h2 bR ?_);case h1=>simpa using dZ
 case h2=>simpa using aU
 rw [<-eV.o];refine Q.mono ?_;rintro e K ⟨v,rfl,iG,bz⟩;obtain⟨R,S,hv,hq⟩:=iG;subst hv;have jK:=dE.o.trans (bz.mono dE.o.size);have fe:bW K (K.alloc (.cells #[.int .i64 (((am l r).1:Nat):Int), .int .i64 (((am l r).2.1:Nat):Int), .slice R (am l r).2.2.1.length S] 217)):=(bi _ K).alloc (bP _) _;obtain⟨jB,M,E⟩:=jS (jK.trans (fe.mono jK.size)) ((wR.o.later bz).later fe) (λw'=>Co (am l r).1 (am l r).2.1 (.slice R (am l r).2.2.1.length S) w' L.o);rw [F6.o] at E;have ahU:¬(N:Int)<=(((am l r).2.1:Nat):Int):=by have:=Xr.o;omega
 clear Xr L F6;clear Q hq bz eV dZ aU bR dE jK fe wR;generalize (am l r).1=A at*;generalize (am l r).2.1=B at*;generalize (am l r).2.2.1.length=D at*;go_wp2_with fail;refine(E.out _).mono ?_;rintro e w5 ⟨rfl,ff⟩;obtain⟨jd,Y8⟩:=bL (jB.o.trans (ff.mono jB.o.size)) (M.o.later ff);have s:=Y8.o.2.2 _ rfl 0 (by omega);have u:=Y8.o.2.2 _ rfl 511 (by omega);rw [aK] at s u;have I:=oe w1.heap.size 512 (r.getD 0 0) (r.getD 511 0) w5 s u;have ht:=gd (r.getD 0 0) (r.getD 511 0);obtain⟨t,wK⟩:=bQ (cD (r.getD 0 0) (r.getD 511 0));rw [<-wK] at ht I;have Qt:=yh wK;clear E ff jB M s u wK;go_wp2_with fail;refine bE I λw' P=>?_;have ez:=P.symm;subst ez;clear P I;go_wp2_with fail;refine(pF N k q x b w5 Xs (T.o.later jd.o) y tk).mono ?_;rintro e w6 ⟨v6,rfl,Xp,ny⟩;obtain⟨p6,Y,rfl,T6,_,_⟩:=Xp.src;have kv:(aQ N ++ b).length=8+q:=by rw [dT,dN,sX]
 rw [kv] at T6⊢;have wO:=yh (jd.o.trans (ny.mono jd.o.size));have J:=oh t p6 (8+q) Y (aQ N ++ b) w6 (by omega) T6 (by omega) ((iC N).append LX);have jL:(be t (aQ N ++ b)).length=512:=fj (by omega);have yQ:=iY (l:=be t (aQ N ++ b)) jL;have F8:=all_oneCell_toArray (cB (be t (aQ N ++ b)));have DG:(bs (be t (aQ N ++ b))).length=512:=by rw [bs,List.length_map,jL]
 obtain⟨G,C⟩:=bQ (bs (be t (aQ N ++ b)));rw [<-C] at J yQ F8 DG;have W:=yh C;clear Xp ny T6 jd C;generalize 8+q=Q8 at*;go_wp2_with fail;refine bE J λf vU=>?_;have Bq:=wO.o.trans (vU.mono wO.o.size);have T7:(f.alloc (.cells bh 211)).heap[f.heap.size]? =some (.cells bh 211 (0,0)):=heap_alloc_new _ _;have dZ:=cE T7 cI;rw [<-DG] at dZ;have aZ:=eE (l:=be t (aQ N ++ b)) T7 (by rw [cI,jL]);rw [<-W.o] at aZ;have ahV:=Bq.size;have M7:bW w (f.alloc (.cells bh 211)):=Bq.alloc Bq.size _;have i:=M7.trans ((aa.setCells (F:=λj=>j=f.heap.size) rfl G 0 _).below (λj Z=>by omega) M7.size);rw [Qt.o] at aZ;have X:=yh (λj=>aF (aZ.au (w':=((f.alloc (.cells bh 211)).setCells f.heap.size 0 G).drewN j) rfl) (aF Bq.size (below_drewN i j)));clear J vU Bq T7 aZ M7 i wO;go_wp2_with (refine wpList_store_mid rfl 211 _ _ rfl f.heap.size 0 G.toArray rfl rfl ?h1 ?h2 F8 ?_);case h1=>simpa using dZ
 case h2=>simpa using yQ
 go_quiet (fail);go_wp2;go_ret3;exact⟨f.heap.size,rfl,X.o _⟩
theorem DK (l r:List Int):(am l r).1<=1:=by
 unfold am;split
 .simp
 .split
  .simp
  .split <;> simp
theorem lr {r:List Int} (b:l.length=512) (c:r.length=512):((am l r).2.2.2=0/\0<(am l r).2.1)\/((am l r).2.2.2=30/\(am l r).2.1=0/\(am l r).1=0):=by
 rw [lN b c];by_cases q:(sanchor l).1=0/\(sanchor r).1=0
 .rw [aE q];exact .inr ⟨rfl,rfl,rfl⟩
 .rw [aA q];by_cases a:(sanchor l).1<(sanchor r).1
  .rw [aE a];exact .inl ⟨rfl,by simp only;omega⟩
  .rw [aA a];exact .inl ⟨rfl,by simp only;omega⟩
theorem Nf (a:Option Addr) (n c:Nat) (l:List Int) (k:Option Addr) (m d:Nat) (r:List Int) (j:Option Addr) (q o:Nat) (b:List Int) (num:Int) (w:World) (s:Src w a n l) (bo:Src w k m r) (y:Bytes l) (z:Bytes r)
    (fB:Src w j q b) (LX:Bytes b) (tk:j=none->o=0) (D:num<=9223372036854775807):
  Calls prog 148 #[.slice a n c, .slice k m d,iV num, .slice j q o] w λe w'=>∃v,e= .returned (.tuple #[iV (((aN l r num b).1:Nat):Int),v,iV (((aN l r num b).2.2:Nat):Int)])/\xy w' w.heap.size v (aN l r num b).2.1/\bW w w':=by
 obtain⟨A9,uS,DM⟩:=jw s.1 bo.1 fB.1;by_cases kC:n=512/\m=512
 .by_cases p:num<1
  .refine(Na a n c l k m d r j q o num w s bo kC p).mono ?_;rintro e w' ⟨rfl,i⟩;have f:aN l r num b=(0, [],1):=(by unfold aN;rw [aA (by omega),aE p]);rw [f];exact⟨_,rfl,xy.nil _ _,i⟩
  .by_cases C:496<q
   .refine(Nb a n c l k m d r j q o num w s bo kC p C).mono ?_;rintro e w' ⟨rfl,i⟩;have f:aN l r num b=(0, [],7):=(by unfold aN;rw [aA (by omega),aA p,aE (by omega)]);rw [f];exact⟨_,rfl,xy.nil _ _,i⟩
   .by_cases t:num<=(((am l r).2.1:Nat):Int)
    .refine(Nc a n c l k m d r j q o num w s bo y z kC p (by omega) t).mono ?_;rintro e w' ⟨rfl,i⟩;have f:aN l r num b=(0, [],31):=(by unfold aN;rw [aA (by omega),aA p,aA (by omega)];simp only;rw [aE t]);rw [f];exact⟨_,rfl,xy.nil _ _,i⟩
    .obtain⟨N,u⟩:∃N:Nat,num=(N:Int):=⟨num.toNat,by omega⟩;have A:=DK l r;have iZ:=lr (l:=l) (r:=r) (by omega) (by omega);have sX:(aQ N ++ b).length<=504:=(by rw [dT,dN];omega);by_cases xZ:(am l r).2.2.2=0/\(am l r).1=0
     .refine(Ne a n c l k m d r j q o b num w s bo y z kC N u (by omega) (by omega) fB LX (by omega) tk (by omega) A (by rw [aA (by omega)];omega)).mono ?_;rintro e w' ⟨g,rfl,aZ,x,i⟩;have f:aN l r num b=(1,be (cD (r.getD 0 0) (r.getD 511 0)) (aQ N ++ b),0):=(by unfold aN;rw [aA (by omega),aA p,aA (by omega)];simp only;rw [aA t,aE xZ,u,Int.toNat_natCast]);rw [f];have:=aZ.lst x;rw [fj sX] at this;exact⟨_,rfl,this,i⟩
     .refine(Nd a n c l k m d r j q o b num w s bo y z kC N u (by omega) (by omega) fB LX (by omega) tk (by omega) A (by split <;> omega)).mono ?_;rintro e w' ⟨g,rfl,aZ,x,i⟩;have f:aN l r num b=(0,be (cD (l.getD 0 0) (l.getD 511 0)) (aQ N ++ b),0):=(by unfold aN;rw [aA (by omega),aA p,aA (by omega)];simp only;rw [aA t,aA xZ,u,Int.toNat_natCast]);rw [f];have:=aZ.lst x;rw [fj sX] at this;exact⟨_,rfl,this,i⟩
 .refine(M9 a n c l k m d r j q o num w s bo kC).mono ?_;rintro e w' ⟨rfl,i⟩;have f:aN l r num b=(0, [],2):=by unfold aN;rw [aE (by omega)]
  rw [f];exact⟨_,rfl,xy.nil _ _,i⟩
theorem qI (a:Option Addr) (n c:Nat) (l:List Int) (f:Option Addr) (m d:Nat) (r:List Int) (o:Option Addr) (q p:Nat) (num:Int) (w:World) (z:Src w a n l) (bo:Src w f m r) (t:Bytes l) (y:Bytes r) (b:Int)
    (h:((am l r).2.2.2=2/\b=2)\/((am l r).2.2.2≠2/\num<1/\b=1)\/((am l r).2.2.2≠2/\¬num<1/\496<q/\b=7)\/((am l r).2.2.2=0/\¬num<1/\¬496<q/\num<=(((am l r).2.1:Nat):Int)/\b=31)):
  Calls prog 163 #[.slice a n c, .slice f m d,iV num, .slice o q p] w λe w'=>e= .returned (.tuple #[iV 0, .slice none 0 0,iV b])/\bW w w':=by
 have j:=mn a n c l f m d r w z bo t y;generalize am l r=T at*;obtain⟨A,B,D,E⟩:=T
 dsimp only at j h
 go_in;go_wp2_with fail;refine j.mono ?_;rintro e w1 ⟨v,rfl,_,aq⟩;have h:=h;rcases h with ⟨rfl,rfl⟩|⟨s,k,rfl⟩|⟨s,k,x,rfl⟩|⟨rfl,k,x,u,rfl⟩
 .go_wp2;go_ret3;exact⟨rfl,aq⟩
 .have g:((E:Int) == 2)=false:=by rw [eG];omega
  go_wp2;go_ret3;exact⟨rfl,aq⟩
 .have g:((E:Int) == 2)=false:=by rw [eG];omega
  have i:496<(q:Int):=by omega
  go_wp2;go_ret3;exact⟨rfl,aq⟩
 .have i:¬496<(q:Int):=by omega
  go_wp2;go_ret3;exact⟨rfl,aq⟩
theorem JK (b1 z c:Nat) (l:List Int) (b2 L d:Nat) (r:List Int) (U:Option Addr) (q Z:Nat) (a:List Int) (N:Nat) (num:Int) (dP:num=(N:Int)) (w:World) (y:Src w (some (aD b1 z)) 512 l) (bo:Src w (some (aD b2 L)) 512 r) (K:Bytes l) (hr:Bytes r)
    (fB:Src w U q a) (LX:Bytes a) (uU:1<=N) (Xs:N<9223372036854775808) (hq:q<=496) (bt:(am l r).2.1<N) (I:¬((am l r).2.2.2=0/\(am l r).1=0)):
  Calls prog 163 #[.slice (some (aD b1 z)) 512 c, .slice (some (aD b2 L)) 512 d,iV num, .slice U q Z] w λe w'=>∃v,e= .returned (.tuple #[iV 0,v,iV 0])/\Own w' w.heap.size v (be (cD (l.getD 0 0) (l.getD 511 0)) (aQ N ++ a))/\bW w w':=by
 have G:=mn (some (aD b1 z)) 512 c l (some (aD b2 L)) 512 d r w y bo K hr;have u:(am l r).2.2.2≠2:=by rcases lr y.1 bo.1 with h|h <;> omega
 obtain⟨S,Y9,C,sX⟩:=cM (yh y) y.1 (yh fB) fB.1;generalize am l r=T at*;obtain⟨A,B,D,E⟩:=T
 dsimp only at G bt I u
 have hE':((E:Int) == 2)=false:=by rw [eG];omega
 have ahX:¬num<1:=by omega
 have ahY:¬num<=(B:Int):=by omega
 have R:=yh dP;clear dP;have X:=yh I;clear y bo fB I bt u;go_in;go_wp2_with fail;refine G.mono ?_;rintro e w1 ⟨v,rfl,_,aq⟩;have cN:=yh aq;have dr:=aq.size;clear G aq;by_cases H:E=0
 .subst H;have Cp:((A:Int) == 0)=false:=by rw [eG];have hA:A≠0:=λh=>X.o ⟨rfl,h⟩;omega
  rw [show (((0:Nat)):Int)=0 by rfl];go_wp2;go_loopw [15,16,17] (λv x i wr=>∃k:Nat,k<=8/\i=iV k/\x=iV ((N / 256 ^ k:Nat):Int)/\Own wr w1.heap.size v (leb k N)/\bW w1 wr) (λ_ _ i _=>8-(intOf i).toNat);case atStart=>exact⟨0,dU _,rfl,by rw [R.o];simp,Own.nil _ _,bi _ _⟩
  case round=>
   obtain⟨k,J,rfl,rfl,az,dO⟩:=hrel;have bq:=yh az;have b:=yh dO;have g:=dO.size;clear az dO;by_cases bm:k<8
   .have cw:(k:Int)<8:=(by omega);have s:N / 256 ^ (k+1)=N / 256 ^ k / 256:=(by rw [Nat.div_div_eq_div_mul,Nat.pow_succ]);have n:=iX k N;rw [show (2:Nat) ^ (8*k)=256 ^ k by rw [Nat.pow_mul]] at n;have hQ:N / 256 ^ k<9223372036854775808:=Nat.lt_of_le_of_lt (Nat.div_le_self _ _) Xs;generalize N / 256 ^ k=Q at*;have q1:((Q:Int)).tmod 256=((Q%256:Nat):Int):=(by rw [Int.tmod_eq_emod_of_nonneg (by omega)];omega);have q2:((Q:Int)).tdiv 256=((Q / 256:Nat):Int):=(by rw [Int.tdiv_eq_ediv_of_nonneg (by omega)];omega);have Pb:=yh s;have LT:=yh n;have jT:=aH k N;clear s n;go_wp2_with (at_builtin;refine b9 rfl _ _ rfl w1.heap.size u15 _ _ rfl rfl bq.o ?b1 ?b2 ?_);case b1=>omega
    case b2=>exact g
    intro p w' f eC;have m:Yh (Own w' w1.heap.size p (leb (k+1) N)):=(by rw [LT.o];exact f);have wN:=yh (b.o.trans (eC.mono (bP _)));clear f eC bq b LT;go_wp2;go_roundw;case rel=>exact⟨k+1,by omega,by go_num,by rw [Pb.o];simp,m.o,wN.o⟩
    case measure=>simp [intOf];omega
   .have cw:¬(k:Int)<8:=(by omega);obtain rfl:k=8:=(by omega);rw [U6] at bq;have iW:Yh (Own wr w1.heap.size u15 (aQ N ++ a.take 0)):=(by show Own wr w1.heap.size u15 (aQ N ++ []);rw [List.append_nil];exact bq.o);clear bq;go_wp2;go_loopw [15,18] (λv i wx=>∃k:Nat,k<=q/\i=iV k/\Own wx w1.heap.size v (aQ N ++ a.take k)/\bW w1 wx) (λ_ i _=>q-(intOf i).toNat);case atStart=>exact⟨0,dU _,rfl,iW.o,b.o⟩
    case round=>
     clear iW b g;obtain⟨k,J,rfl,az,dO⟩:=hrel;have bq:=yh az;have b:=yh dO;have g:=dO.size;clear az dO;have jT:(aQ N ++ a.take k).length=8+k:=(by rw [dT,dN,List.length_take];omega);by_cases bm:k<q
     .have cw:(k:Int)<(q:Int):=(by omega);obtain⟨Y,o3,rfl⟩:=cT C.o (by omega);have mY:=C.o.2.2 _ rfl k bm;rw [aK] at mY;have mY:=cell_later (cN.o.trans (b.o.mono dr)) mY;have Ci:=yh (jW a k (by omega));generalize a.getD k 0=x at*;go_wp2_with (at_builtin;refine b9 rfl _ _ rfl w1.heap.size u15 _ x rfl rfl bq.o ?b1 ?b2 ?_);case b1=>omega
      case b2=>exact g
      intro p w' f eC;have m:Yh (Own w' w1.heap.size p (aQ N ++ a.take (k+1))):=(by rw [<-Ci.o];first|exact f|(rw [<-List.append_assoc];exact f));have wN:=yh (b.o.trans (eC.mono (bP _)));clear f eC bq b Ci;go_wp2;go_roundw;case rel=>exact⟨k+1,by omega,by go_num,m.o,wN.o⟩
      case measure=>simp [intOf];omega
     .have cw:¬(k:Int)<(q:Int):=(by omega);have t:a.take k=a:=nh (by omega);rw [t] at bq jT;obtain⟨O,P,rfl,sb,_,_⟩:=bq.o.src;have QH:=cN.o.trans (b.o.mono dr);have MY:(aQ N ++ a).length<=504:=(by omega);have j:=qF (some (aD b1 z)) 512 c l O (aQ N ++ a).length P (aQ N ++ a) wr (S.o.later QH) sb ((iC N).append LX) K;rw [yJ Y9 MY] at j
      dsimp only at j
      have l9:=yh QH;clear t sb QH jT bq b;generalize (aQ N ++ a).length=W at*;go_wp2_with fail;refine j.mono ?_;rintro e w5 ⟨M,rfl,FR,ff⟩;have F:=yh (aF (Own.down FR l9.o.size) (l9.o.trans (ff.mono l9.o.size)));clear j FR ff;go_wp2;go_ret3;exact⟨M,rfl,F.o⟩
 .have aoI:((E:Int) == 0)=false:=by rw [eG];omega
  go_wp2;go_loopw [15,16,17] (λv x i wr=>∃k:Nat,k<=8/\i=iV k/\x=iV ((N / 256 ^ k:Nat):Int)/\Own wr w1.heap.size v (leb k N)/\bW w1 wr) (λ_ _ i _=>8-(intOf i).toNat);case atStart=>exact⟨0,dU _,rfl,by rw [R.o];simp,Own.nil _ _,bi _ _⟩
  case round=>
   obtain⟨k,J,rfl,rfl,az,dO⟩:=hrel;have bq:=yh az;have b:=yh dO;have g:=dO.size;clear az dO;by_cases bm:k<8
   .have cw:(k:Int)<8:=(by omega);have s:N / 256 ^ (k+1)=N / 256 ^ k / 256:=(by rw [Nat.div_div_eq_div_mul,Nat.pow_succ]);have n:=iX k N;rw [show (2:Nat) ^ (8*k)=256 ^ k by rw [Nat.pow_mul]] at n;have hQ:N / 256 ^ k<9223372036854775808:=Nat.lt_of_le_of_lt (Nat.div_le_self _ _) Xs;generalize N / 256 ^ k=Q at*;have q1:((Q:Int)).tmod 256=((Q%256:Nat):Int):=(by rw [Int.tmod_eq_emod_of_nonneg (by omega)];omega);have q2:((Q:Int)).tdiv 256=((Q / 256:Nat):Int):=(by rw [Int.tdiv_eq_ediv_of_nonneg (by omega)];omega);have Pb:=yh s;have LT:=yh n;have jT:=aH k N;clear s n;go_wp2_with (at_builtin;refine b9 rfl _ _ rfl w1.heap.size u15 _ _ rfl rfl bq.o ?b1 ?b2 ?_);case b1=>omega
    case b2=>exact g
    intro p w' f eC;have m:Yh (Own w' w1.heap.size p (leb (k+1) N)):=(by rw [LT.o];exact f);have wN:=yh (b.o.trans (eC.mono (bP _)));clear f eC bq b LT;go_wp2;go_roundw;case rel=>exact⟨k+1,by omega,by go_num,by rw [Pb.o];simp,m.o,wN.o⟩
    case measure=>simp [intOf];omega
   .have cw:¬(k:Int)<8:=(by omega);obtain rfl:k=8:=(by omega);rw [U6] at bq;have iW:Yh (Own wr w1.heap.size u15 (aQ N ++ a.take 0)):=(by show Own wr w1.heap.size u15 (aQ N ++ []);rw [List.append_nil];exact bq.o);clear bq;go_wp2;go_loopw [15,18] (λv i wx=>∃k:Nat,k<=q/\i=iV k/\Own wx w1.heap.size v (aQ N ++ a.take k)/\bW w1 wx) (λ_ i _=>q-(intOf i).toNat);case atStart=>exact⟨0,dU _,rfl,iW.o,b.o⟩
    case round=>
     clear iW b g;obtain⟨k,J,rfl,az,dO⟩:=hrel;have bq:=yh az;have b:=yh dO;have g:=dO.size;clear az dO;have jT:(aQ N ++ a.take k).length=8+k:=(by rw [dT,dN,List.length_take];omega);by_cases bm:k<q
     .have cw:(k:Int)<(q:Int):=(by omega);obtain⟨Y,o3,rfl⟩:=cT C.o (by omega);have mY:=C.o.2.2 _ rfl k bm;rw [aK] at mY;have mY:=cell_later (cN.o.trans (b.o.mono dr)) mY;have Ci:=yh (jW a k (by omega));generalize a.getD k 0=x at*;go_wp2_with (at_builtin;refine b9 rfl _ _ rfl w1.heap.size u15 _ x rfl rfl bq.o ?b1 ?b2 ?_);case b1=>omega
      case b2=>exact g
      intro p w' f eC;have m:Yh (Own w' w1.heap.size p (aQ N ++ a.take (k+1))):=(by rw [<-Ci.o];first|exact f|(rw [<-List.append_assoc];exact f));have wN:=yh (b.o.trans (eC.mono (bP _)));clear f eC bq b Ci;go_wp2;go_roundw;case rel=>exact⟨k+1,by omega,by go_num,m.o,wN.o⟩
      case measure=>simp [intOf];omega
     .have cw:¬(k:Int)<(q:Int):=(by omega);have t:a.take k=a:=nh (by omega);rw [t] at bq jT;obtain⟨O,P,rfl,sb,_,_⟩:=bq.o.src;have QH:=cN.o.trans (b.o.mono dr);have MY:(aQ N ++ a).length<=504:=(by omega);have j:=qF (some (aD b1 z)) 512 c l O (aQ N ++ a).length P (aQ N ++ a) wr (S.o.later QH) sb ((iC N).append LX) K;rw [yJ Y9 MY] at j
      dsimp only at j
      have l9:=yh QH;clear t sb QH jT bq b;generalize (aQ N ++ a).length=W at*;go_wp2_with fail;refine j.mono ?_;rintro e w5 ⟨M,rfl,FR,ff⟩;have F:=yh (aF (Own.down FR l9.o.size) (l9.o.trans (ff.mono l9.o.size)));clear j FR ff;go_wp2;go_ret3;exact⟨M,rfl,F.o⟩
theorem JL (b1 C c:Nat) (l:List Int) (b2 p d:Nat) (r:List Int) (I:Option Addr) (q R:Nat) (a:List Int) (N:Nat) (num:Int) (dP:num=(N:Int)) (w:World) (z:Src w (some (aD b1 C)) 512 l) (bo:Src w (some (aD b2 p)) 512 r) (W:Bytes l) (L:Bytes r)
    (fB:Src w I q a) (LX:Bytes a) (uU:1<=N) (Xs:N<9223372036854775808) (hq:q<=496) (bt:(am l r).2.1<N) (y:(am l r).2.2.2=0/\(am l r).1=0):
  Calls prog 163 #[.slice (some (aD b1 C)) 512 c, .slice (some (aD b2 p)) 512 d,iV num, .slice I q R] w λe w'=>∃v,e= .returned (.tuple #[iV 1,v,iV 0])/\Own w' w.heap.size v (be (cD (r.getD 0 0) (r.getD 511 0)) (aQ N ++ a))/\bW w w':=by
 have u:=mn (some (aD b1 C)) 512 c l (some (aD b2 p)) 512 d r w z bo W L;have j:(am l r).2.2.2≠2:=by rcases lr z.1 bo.1 with h|h <;> omega
 obtain⟨P,Y9,G,sX⟩:=cM (yh bo) bo.1 (yh fB) fB.1;generalize am l r=T at*;obtain⟨A,B,D,E⟩:=T
 dsimp only at u bt y j
 have S:((E:Int) == 2)=false:=by rw [eG];omega
 have ahX:¬num<1:=by omega
 have ahY:¬num<=(B:Int):=by omega
 have O:=yh dP;clear dP;have H:=yh y;clear z bo fB y bt j;go_in;go_wp2_with fail;refine u.mono ?_;rintro e w1 ⟨v,rfl,_,aq⟩;have cN:=yh aq;have dr:=aq.size;clear u aq;by_cases g:E=0
 .subst g;have Cp:=H.o.2;subst Cp;rw [show (((0:Nat)):Int)=0 by rfl];go_wp2;go_loopw [15,16,17] (λv x i wr=>∃k:Nat,k<=8/\i=iV k/\x=iV ((N / 256 ^ k:Nat):Int)/\Own wr w1.heap.size v (leb k N)/\bW w1 wr) (λ_ _ i _=>8-(intOf i).toNat);case atStart=>exact⟨0,dU _,rfl,by rw [O.o];simp,Own.nil _ _,bi _ _⟩
  case round=>
   obtain⟨k,U,rfl,rfl,az,dO⟩:=hrel;have bq:=yh az;have b:=yh dO;have m:=dO.size;clear az dO;by_cases bm:k<8
   .have cw:(k:Int)<8:=(by omega);have J:N / 256 ^ (k+1)=N / 256 ^ k / 256:=(by rw [Nat.div_div_eq_div_mul,Nat.pow_succ]);have t:=iX k N;rw [show (2:Nat) ^ (8*k)=256 ^ k by rw [Nat.pow_mul]] at t;have hQ:N / 256 ^ k<9223372036854775808:=Nat.lt_of_le_of_lt (Nat.div_le_self _ _) Xs;generalize N / 256 ^ k=Q at*;have q1:((Q:Int)).tmod 256=((Q%256:Nat):Int):=(by rw [Int.tmod_eq_emod_of_nonneg (by omega)];omega);have q2:((Q:Int)).tdiv 256=((Q / 256:Nat):Int):=(by rw [Int.tdiv_eq_ediv_of_nonneg (by omega)];omega);have Pb:=yh J;have LT:=yh t;have jT:=aH k N;clear J t;go_wp2_with (at_builtin;refine b9 rfl _ _ rfl w1.heap.size u15 _ _ rfl rfl bq.o ?b1 ?b2 ?_);case b1=>omega
    case b2=>exact m
    intro F w' f eC;have s:Yh (Own w' w1.heap.size F (leb (k+1) N)):=(by rw [LT.o];exact f);have wN:=yh (b.o.trans (eC.mono (bP _)));clear f eC bq b LT;go_wp2;go_roundw;case rel=>exact⟨k+1,by omega,by go_num,by rw [Pb.o];simp,s.o,wN.o⟩
    case measure=>simp [intOf];omega
   .have cw:¬(k:Int)<8:=(by omega);obtain rfl:k=8:=(by omega);rw [U6] at bq;have iW:Yh (Own wr w1.heap.size u15 (aQ N ++ a.take 0)):=(by show Own wr w1.heap.size u15 (aQ N ++ []);rw [List.append_nil];exact bq.o);clear bq;go_wp2;go_loopw [15,18] (λv i wx=>∃k:Nat,k<=q/\i=iV k/\Own wx w1.heap.size v (aQ N ++ a.take k)/\bW w1 wx) (λ_ i _=>q-(intOf i).toNat);case atStart=>exact⟨0,dU _,rfl,iW.o,b.o⟩
    case round=>
     clear iW b m;obtain⟨k,U,rfl,az,dO⟩:=hrel;have bq:=yh az;have b:=yh dO;have m:=dO.size;clear az dO;have jT:(aQ N ++ a.take k).length=8+k:=(by rw [dT,dN,List.length_take];omega);by_cases bm:k<q
     .have cw:(k:Int)<(q:Int):=(by omega);obtain⟨b3,o3,rfl⟩:=cT G.o (by omega);have mY:=G.o.2.2 _ rfl k bm;rw [aK] at mY;have mY:=cell_later (cN.o.trans (b.o.mono dr)) mY;have Ci:=yh (jW a k (by omega));generalize a.getD k 0=x at*;go_wp2_with (at_builtin;refine b9 rfl _ _ rfl w1.heap.size u15 _ x rfl rfl bq.o ?b1 ?b2 ?_);case b1=>omega
      case b2=>exact m
      intro F w' f eC;have s:Yh (Own w' w1.heap.size F (aQ N ++ a.take (k+1))):=(by rw [<-Ci.o];first|exact f|(rw [<-List.append_assoc];exact f));have wN:=yh (b.o.trans (eC.mono (bP _)));clear f eC bq b Ci;go_wp2;go_roundw;case rel=>exact⟨k+1,by omega,by go_num,s.o,wN.o⟩
      case measure=>simp [intOf];omega
     .have cw:¬(k:Int)<(q:Int):=(by omega);have K:a.take k=a:=nh (by omega);rw [K] at bq jT;obtain⟨Y,Z,rfl,sb,_,_⟩:=bq.o.src;have QH:=cN.o.trans (b.o.mono dr);have MY:(aQ N ++ a).length<=504:=(by omega);have n:=qF (some (aD b2 p)) 512 d r Y (aQ N ++ a).length Z (aQ N ++ a) wr (P.o.later QH) sb ((iC N).append LX) L;rw [yJ Y9 MY] at n
      dsimp only at n
      have l9:=yh QH;clear K sb QH jT bq b;generalize (aQ N ++ a).length=BL at*;go_wp2_with fail;refine n.mono ?_;rintro e w5 ⟨X,rfl,FR,ff⟩;have M:=yh (aF (Own.down FR l9.o.size) (l9.o.trans (ff.mono l9.o.size)));clear n FR ff;go_wp2;go_ret3;exact⟨X,rfl,M.o⟩
 .exact absurd H.o.1 g
theorem JM (a:Option Addr) (n c:Nat) (l:List Int) (p:Option Addr) (m d:Nat) (r:List Int) (g:Option Addr) (q k:Nat) (b:List Int) (num:Int) (w:World) (j:Src w a n l) (bo:Src w p m r) (s:Bytes l) (t:Bytes r)
    (fB:Src w g q b) (LX:Bytes b) (F:num<=9223372036854775807):
  Calls prog 163 #[.slice a n c, .slice p m d,iV num, .slice g q k] w λe w'=>∃v,e= .returned (.tuple #[iV (((aN l r num b).1:Nat):Int),v,iV (((aN l r num b).2.2:Nat):Int)])/\Own w' w.heap.size v (aN l r num b).2.1/\bW w w':=by
 obtain⟨A9,uS,DM⟩:=jw j.1 bo.1 fB.1;by_cases kC:n=512/\m=512
 .have iZ:=lr (l:=l) (r:=r) (by omega) (by omega);by_cases i:num<1
  .refine(qI a n c l p m d r g q k num w j bo s t 1 (.inr (.inl ⟨by omega,i,rfl⟩))).mono ?_;rintro e w' ⟨rfl,o⟩;have f:aN l r num b=(0, [],1):=(by unfold aN;rw [aA (by omega),aE i]);rw [f];exact⟨_,rfl,Own.nil _ _,o⟩
  .by_cases A:496<q
   .refine(qI a n c l p m d r g q k num w j bo s t 7 (.inr (.inr (.inl ⟨by omega,i,A,rfl⟩)))).mono ?_;rintro e w' ⟨rfl,o⟩;have f:aN l r num b=(0, [],7):=(by unfold aN;rw [aA (by omega),aA i,aE (by omega)]);rw [f];exact⟨_,rfl,Own.nil _ _,o⟩
   .by_cases u:num<=(((am l r).2.1:Nat):Int)
    .refine(qI a n c l p m d r g q k num w j bo s t 31 (.inr (.inr (.inr ⟨by omega,i,A,u,rfl⟩)))).mono ?_;rintro e w' ⟨rfl,o⟩;have f:aN l r num b=(0, [],31):=(by unfold aN;rw [aA (by omega),aA i,aA (by omega)];simp only;rw [aE u]);rw [f];exact⟨_,rfl,Own.nil _ _,o⟩
    .obtain⟨N,x⟩:∃N:Nat,num=(N:Int):=⟨num.toNat,by omega⟩;obtain⟨rfl,rfl⟩:=kC;obtain⟨y,C,rfl⟩:=cT j (by omega);obtain⟨z,D,rfl⟩:=cT bo (by omega);by_cases xZ:(am l r).2.2.2=0/\(am l r).1=0
     .have f:aN l r num b=(1,be (cD (r.getD 0 0) (r.getD 511 0)) (aQ N ++ b),0):=(by unfold aN;rw [aA (by omega),aA i,aA (by omega)];simp only;rw [aA u,aE xZ,x,Int.toNat_natCast]);rw [f];exact JL y C c l z D d r g q k b N num x w j bo s t fB LX (by omega) (by omega) (by omega) (by omega) xZ
     .have f:aN l r num b=(0,be (cD (l.getD 0 0) (l.getD 511 0)) (aQ N ++ b),0):=(by unfold aN;rw [aA (by omega),aA i,aA (by omega)];simp only;rw [aA u,aA xZ,x,Int.toNat_natCast]);rw [f];exact JK y C c l z D d r g q k b N num x w j bo s t fB LX (by omega) (by omega) (by omega) (by omega) xZ
 .have E:am l r=(0,0, [],2):=by unfold am;rw [aE (by omega)]
  refine(qI a n c l p m d r g q k num w j bo s t 2 (.inl ⟨by rw [E],rfl⟩)).mono ?_;rintro e w' ⟨rfl,o⟩;have f:aN l r num b=(0, [],2):=by unfold aN;rw [aE (by omega)]
  rw [f];exact⟨_,rfl,Own.nil _ _,o⟩
theorem rC (l r:List Int):(am l r).2.1<=9223372036854775807:=by
 have a:=kn l;have b:=kn r;unfold am;split
 .simp
 .split
  .simp
  .split <;> simp only <;> omega
theorem U8 (s:Nat) (x:Int) (h:S.fuse=0):S.rd s x=(3,S, []):=aE h
theorem QI {k:Nat} (h:S.fuse≠0) (a:k<s):S.rd s (k:Int)=(0,S.read,S.now k):=by
 unfold DS.rd;rw [aA h,aA (by omega)];simp
theorem Out.low {d b:Nat} (h:Out d w l v) (i:b<=d):Out b w l v:=by
 obtain⟨a,c,rfl,f,g⟩:=h;exact⟨a,c,rfl,f,λx e=>jQ i (g x e)⟩
theorem aa.boxed (F:Nat->Prop) (o:Obj):aa F w (w.alloc o):=aa.alloc F w o
theorem Ng (h:aP w F p s S) (f n:Int) (aT:S.puts.length+1<=4000000000000) (b:S.fuse=0):
  Calls prog 147 #[kw p f n] w λe w'=>e= .returned (.tuple #[.slice none 0 0, .slice none 0 0,iV 3])/\aP w' F p s S/\aa F w w':=by
 have a:=tt (h.boxed (.cells #[.pointer (some ⟨p,0,none⟩), .int .i64 f, .int .i64 n] 144)) f aT;rw [U8 _ _ b] at a;go_in;go_wp2_with fail;refine a.mono ?_;rintro e w1 ⟨v,rfl,_,hd,c⟩;go_wp2;go_ret3;exact⟨rfl,hd,(aa.boxed (w:=w) F (.cells #[.pointer (some ⟨p,0,none⟩), .int .i64 f, .int .i64 n] 144)).trans c (λ_ h=> .inl h)⟩
theorem yR {w1:World} {o:Obj} (b:∀k,F k->k<w.heap.size) (a:aa F (w.alloc o) w1):w1.heap[w.heap.size]? =some o:=by
 rw [a.block w.heap.size (by simp) (λh=>by have:=b _ h;omega)];exact heap_alloc_new _ _
theorem LZ (h:aP w F p s S) (f:Nat) (n:Int) (aT:S.puts.length+1<=4000000000000) (l:S.fuse≠0) (o:f+1<s):
  Calls prog 147 #[kw p f n] w λe w'=>∃v1 c,e= .returned (.tuple #[v1,c,iV 0])/\Out w.heap.size w' (S.now f) v1/\Out w.heap.size w' (S.now (f+1)) c/\aP w' F p s S.read.read/\aa F w w':=by
 have i:=tt (h.boxed (.cells #[.pointer (some ⟨p,0,none⟩), .int .i64 f, .int .i64 n] 144)) f aT;rw [QI l (by omega)] at i;have bo:=h.ok.hi;have g:=h.lt;go_in;go_wp2_with fail;refine i.mono ?_;rintro e w1 ⟨v,rfl,m,hd,a⟩;have dF:=yR g a;have Jl:=aL dF;have A2:=bD dF;have j:=tt hd ((f+1:Nat):Int) (by simpa [DS.read] using aT);rw [QI (S:=S.read) l o] at j;have d:=((aa.boxed (w:=w) F (.cells #[.pointer (some ⟨p,0,none⟩), .int .i64 f, .int .i64 n] 144)).trans a (λ_ h=> .inl h));go_wp2_with fail;refine j.mono ?_;rintro e q ⟨c,rfl,jo,cC,aX⟩;have b:=(m.keeps aX (λk a=>by have:=g k a;simp;omega));go_wp2;go_ret3;exact⟨_,_,rfl,b.low (by simp),jo.low d.size,cC,d.trans aX (λ_ h=> .inl h)⟩
end Go.Proofs.YtenlkgicpllbhaaGreat
