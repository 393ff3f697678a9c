import Derived.Test.YtcpdggdfihjhoaaGreatW01
import Derived.Test.YtcpdggdfihjhoaaGreatW08
import Derived.Test.YtcpdggdfihjhoaaGreatW09
import Derived.Test.YtcpdggdfihjhoaaGreatW10
set_option maxRecDepth 20000
set_option maxHeartbeats 8000000
set_option linter.all false
namespace Go.Proofs.YtcpdggdfihjhoaaGreat
open Go.Proofs.Tryz
open Go.RowKit Go.Maps
variable {ov:CM} {S':DS} {f x:Int} {L:LG} {y:LY} {rs:List (List Int)} {ps:List (Nat×List Int)} {d l:List Int} {E P a c g hd hm i j k kl n u:Nat} {R:Nat->PC} {F7 Z:Nat->Prop} {G:SG} {T:TG} {α:Type} {e:TypeId} {nv v:Value} {W:World}
section
section
variable {w w':World} {F G:Nat->Prop} {r s k:Nat} {S:DS} {L:LG}
def ae3 (w w':World) (R:Nat->PC) (E P:Nat) (v:Value) (n:Int):Prop:=
   (∃c d,Rec R E P c d/\n=(c:Int)/\Own w' w.heap.size v d)\/(n=0/\v= .slice none 0 0/\∀c d,¬Rec R E P c d)
def Tn (h:(R P).d= []):∀c d,¬Rec R E P c d:=λc d a=>by
 have:=(a.2.2.1 0 (by have:=a.1;omega)).2.2.2.2.1;rw [Nat.add_zero,h] at this;simp at this
def EO (h:(R P).c<1\/17<(R P).c):∀c d,¬Rec R E P c d:=λc d a=>by
 have:=a.count;have:=a.1;have:=a.2.1;omega
def Im (b:i<(R P).c) (h:¬(R (P+i)).ok E (P+i) i (R P).c):∀c d,¬Rec R E P c d:=λc d a=>by
 rw [a.count] at b h;exact h (a.2.2.1 i b)
def WV (E P:Nat) (h:aC w F r s S) (y:cK w k r L) (O0:S.fL) (hs:L.f+2+L.n<=s) (jl:1<=L.n) (aU:S.puts.length+1<=4000000000000) (hE:E<=1073741824) (hP:P<=2147483648):
  Calls prog 166 #[pQ k,iV (E:Int),iV (P:Int)] w λe w'=>∃v n,e= .returned (.tuple #[v,iV n])/\ae3 w w' (Rp (dZ S L.f) L.n) E P v n/\bW w w':=by
 have Mu:=h.ok.hi;have W:P%L.n<L.n:=Nat.mod_lt _ jl;have mr:=bu h.ok (L.f+2+P%L.n) (by omega);have dC:=O0.now (L.f+2+P%L.n);obtain⟨u,K,O,Q⟩:=cO (jN (h.later (ai (bi w.heap.size w))) (L.f+2+P%L.n) (by omega) (by omega)) y.c0 y.c2 y.c3;have UP:Rp (dZ S L.f) L.n P=dj (S.now (L.f+2+P%L.n)):=rfl;have a:=(λ(wx:World) (i c:Nat) (hb:bW w wx) (hi:i<=17) (hc:c<=65536) (A9:1<=c)=>OW E (P+i) i c (h.later hb) (y.later hb) (O0.now _) hs jl aU (by omega) (by omega) (by omega) hc A9);have wN:(P:Int).tmod (L.n:Int)=((P%L.n:Nat):Int):=by rw [Int.tmod_eq_emod_of_nonneg (by omega),<-Int.natCast_emod]
 have Sv:(P:Int)%(L.n:Int)=((P%L.n:Nat):Int):=by rw [<-Int.natCast_emod]
 have ou:=(km dC).2.2.2.1;obtain⟨M,hM⟩:=bQ (P%L.n);rw [<-hM] at wN Sv W u mr dC UP ou;rw [show ((L.f+2+M:Nat):Int)=(L.f:Int)+2+(M:Int) by omega] at u;have yn:IntKind.i64.wrap ((L.f:Int)+2)=(L.f:Int)+2:=by rw [IntKind.wrap_i64];omega
 have aeV:IntKind.i64.wrap ((L.f:Int)+2+(M:Int))=(L.f:Int)+2+(M:Int):=by rw [IntKind.wrap_i64];omega
 have aeW:¬L.n=0:=by omega
 have x:∀q,dj (S.now (L.f+2+q%L.n))=Rp (dZ S L.f) L.n q:=λq=>rfl;simp only [x] at a;clear hM h y x;generalize S.now (L.f+2+M)=l at*;have U:∀q,(Rp (dZ S L.f) L.n q).d.length<=492:=λq=>(km (O0.now _)).2.2.2.2.1;generalize Rp (dZ S L.f) L.n=R at*;have hlen:=D2 l;have gX:=pX dC;go_in;go_wp2_with fail;go_region_held3 (λw'=>w'.cell? (aD k 0)=some (pQ r)/\w'.cell? (aD k 2)=some (iV (L.f:Int))/\w'.cell? (aD k 3)=some (iV (L.n:Int)))
  (first|exact⟨K,O,Q⟩)
    ((go_at_call 40;refine u.mono ?_;rintro e w1 ⟨g,cg,rfl,hFg,be,bL⟩;have jP:=bL.symm;clear bL;subst jP))
 have gu:=be.src;rw [mr] at gu;have m:=qT (some (aD g 0)) 512 cg l w.drew gu dC;by_cases G:(aX l).2=0
 .rw [G] at m;clear u be gu K O Q;go_wp2_with fail;by_cases k2:(aX l).1.length<=12
  .have tj:=(show∀c d,¬Rec R E P c d from Tn (by rw [UP];exact yr (.inr k2)));have d2:((aX l).1.length:Int)<=12:=(by omega);clear k2 a UP;refine m.mono ?_;rintro e A ⟨X,rfl,jw,bd⟩;obtain⟨p,rK,rfl,bo,_,_⟩:=jw.src;have dP:=(ai (bi w.heap.size w)).trans bd;clear m bd jw bo;go_wp2;go_ret2;exact⟨_,_,rfl, .inr ⟨rfl,rfl,tj⟩,dP⟩
  .have nx:=vP G (by omega);have d2:¬((aX l).1.length:Int)<=12:=(by omega);by_cases H:(dj l).c<1\/17<(dj l).c
   .have tj:=(show∀c d,¬Rec R E P c d from EO (by rw [UP];exact H));refine m.mono ?_;rintro e A ⟨X,rfl,jw,bd⟩;obtain⟨p,rK,rfl,bo,_,_⟩:=jw.src;have dP:=(ai (bi w.heap.size w)).trans bd;have b:=bC p _ rK _ A bo gX 10 2 (by omega) (by omega) (by omega);rw [<-nx.2.2.2.1,show (((10:Nat)):Int)=10 from rfl,show (((2:Nat)):Int)=2 from rfl] at b;clear m bd jw bo nx;go_wp2_with fail;refine bN b λw3 eG=>?_;have eW:=eG.symm;clear eG b;subst eW;by_cases k4:(dj l).c<1
    .have T:((dj l).c:Int)<1:=(by omega);clear H a UP;go_wp2;go_ret2;exact⟨_,_,rfl, .inr ⟨rfl,rfl,tj⟩,dP⟩
    .have T:¬((dj l).c:Int)<1:=(by omega);have d5:(17:Int)<((dj l).c:Int):=(by omega);clear H a UP;go_wp2;go_ret2;exact⟨_,_,rfl, .inr ⟨rfl,rfl,tj⟩,dP⟩
   .have T:¬((dj l).c:Int)<1:=(by omega);have d5:¬(17:Int)<((dj l).c:Int):=(by omega);have o:(R P).c=(dj l).c:=(by rw [UP]);refine m.mono ?_;rintro e A ⟨X,rfl,jw,bd⟩;obtain⟨p,rK,rfl,bo,_,_⟩:=jw.src;have dP:=(ai (bi w.heap.size w)).trans bd;have b:=bC p _ rK _ A bo gX 10 2 (by omega) (by omega) (by omega);rw [<-nx.2.2.2.1,show (((10:Nat)):Int)=10 from rfl,show (((2:Nat)):Int)=2 from rfl] at b;clear m bd jw bo nx;go_wp2_with fail;refine bN b λw3 eG=>?_;have eW:=eG.symm;clear eG b;subst eW;obtain⟨C,hC⟩:=bQ ((dj l).c);rw [<-hC] at T d5 o H⊢;have WY:=o;clear o hC UP;go_wp2;go_loopw [12,13] (λv i wr=>∃j:Nat,j<=C/\i=iV (j:Int)/\(∀t,t<j->(R (P+t)).ok E (P+t) t C)/\Own wr w.heap.size v (ll R P j)/\(ll R P j).length<=492*j/\bW w wr) (λ_ i _=>C-(intOf i).toNat);case atStart=>exact⟨0,dV _,rfl,λt ht=>by omega,by rw [mA];exact Own.nil _ _,by rw [mA];simp,dP⟩
    case round=>
     obtain⟨j,hj,rfl,bV,aA,qR,ew⟩:=hrel;obtain⟨bt,I,O1,hz⟩:=cO aA ew bV ew.size;clear aA ew bV;by_cases bq:j<C
     .have cC:(j:Int)<(C:Int):=(by omega);have D:=a wr j C I (by omega) (by omega) (by omega);rw [show ((P+j:Nat):Int)=(P:Int)+(j:Int) by omega] at D;go_wp2_with fail;refine D.mono ?_;rintro e w4 ⟨v4,rfl,UN,fw⟩;have rF:=I.trans (fw.mono hz);have ws:=fw.size;rcases UN with ⟨du,body,z,kv,VG,ae5⟩|⟨jc,rfl⟩
      .obtain⟨a4,Z,rfl,Ep,iZ,_⟩:=z.src;obtain⟨Y,o4,rfl⟩:=cX Ep (by omega);have X5:Src w4 (some ⟨Y,o4+12,none⟩) (body.length-12) ((R (P+j)).d):=by
        have:=Ep.sub 12 (body.length-12) (by omega);rwa [nz (by simp),kv] at this
       have jH:=U (P+j);have Kr:(R (P+j)).d.length=body.length-12:=(by rw [<-kv];simp);obtain⟨x5,w5,bD,rT,fa⟩:=rn (B:=w.heap.size) (bt.later fw) (Z-12) X5 (by omega) (by omega) (by omega);obtain⟨nN,J,jr,PK⟩:=cO bD rT ((rF.trans fa)) du;obtain⟨N,b⟩:=bQ body.length;rw [<-b] at VG ae5 iZ nN Kr⊢;have jl:¬(N:Int)=0:=(by omega);have xY:((N:Int) == 0)=false:=(by rw [fJ];omega);have Wm:(12:Int)<=(N:Int):=(by omega);clear D du z kv Ep X5 bD rT fa fw rF b;go_wp2_with (at_builtin;refine br rfl _ _ 36 rfl u12 (.slice (some ⟨Y,o4+12,none⟩) (N-12) (Z-12)) _ rfl rfl nN ?_);go_wp2;go_roundw;case rel=>
        refine⟨j+1,by omega,by go_num,λt ht=>?_,by rw [iB];exact J,by rw [iB,ed];omega,jr⟩;by_cases e:t=j
        .subst e;exact PK
        .exact O1 t (by omega)
       case measure=>simp [intOf];omega
      .have tj:=(show∀c d,¬Rec R E P c d from Im (by rw [WY];exact bq) (by rw [WY];exact jc));have jV:=rF;clear jc fw rF D;go_wp2;go_ret2;exact⟨_,_,rfl, .inr ⟨rfl,rfl,tj⟩,jV⟩
     .obtain rfl:j=C:=(by omega);have wq:¬(j:Int)<(j:Int):=(by omega);go_wp2;go_ret2;exact⟨_,_,rfl, .inl ⟨_,_,(show Rec R E P j (ll R P j) from ⟨by omega,by omega,O1,rfl⟩),rfl,bt⟩,I⟩
 .have tj:=(show∀c d,¬Rec R E P c d from Tn (by rw [UP];exact yr (.inl G)));have d1':(((aX l).2:Int) != 0)=true:=by rw [gB];omega
  clear G a UP;clear u be gu K O Q;go_wp2_with fail;refine m.mono ?_;rintro e A ⟨X,rfl,jw,bd⟩;obtain⟨p,rK,rfl,bo,_,_⟩:=jw.src;have dP:=(ai (bi w.heap.size w)).trans bd;clear m bd jw bo;go_wp2;go_ret2;exact⟨_,_,rfl, .inr ⟨rfl,rfl,tj⟩,dP⟩
end
end
section
def O2 (h:(aX l).2≠0\/(aX l).1.length<12):(dj l).e=0:=by
 unfold dj;rw [aG h];rfl
def O3 (h:(R j).e<1\/1073741824<(R j).e\/(R j).e<=max E (gO R j)):max E (gO R (j+1))=max E (gO R j):=by
 show max E (if (R j).e<=1073741824 then max (gO R j) (R j).e else gO R j)=_;split <;> omega
def O4 (h:(R j).e<=1073741824) (a:max E (gO R j)<(R j).e):max E (gO R (j+1))=(R j).e:=by
 show max E (if (R j).e<=1073741824 then max (gO R j) (R j).e else gO R j)=_;rw [aG h];omega
section
variable {w w':World} {F G:Nat->Prop} {r s k:Nat} {S:DS} {L:LG}
def To (E:Nat) (h:aC w F r s S) (K:cK w k r L) (O0:S.fL) (hs:L.f+2+L.n<=s) (aU:S.puts.length+1<=4000000000000) (T:E<=1073741824):
  Calls prog 165 #[pQ k,iV (E:Int)] w λe w'=>e= .returned (iV ((max E (gO (dZ S L.f) L.n):Nat):Int))/\bW w w':=by
 obtain⟨Mu,O,P,PK,Fy⟩:=eK h.ok.hi (yh h) (yh K) (yh h.ok) (yh O0);have p:∀q,dj (S.now (L.f+2+q))=dZ S L.f q:=λq=>rfl;have d:=yh p;clear h K O0 p;obtain⟨R,I⟩:=bQ (dZ S L.f);rw [<-I] at d⊢;clear I;go_in;go_wp2;go_loopw [5,6] (λm i wr=>∃j:Nat,j<=L.n/\i=iV (j:Int)/\m=iV ((max E (gO R j):Nat):Int)/\bW w wr) (λ_ i _=>L.n-(intOf i).toNat);case atStart=>exact⟨0,dV _,rfl,by simp [gO],bi _ _⟩
 case round=>
  obtain⟨j,hj,rfl,rfl,ew⟩:=hrel;have C:=yh ew;have cu:=P.o.later ew;obtain⟨D,G,W,hz,AE,Tp⟩:=jF cu.c0 cu.c2 cu.c3 ew.size (yh (O3 (R:=R) (E:=E) (j:=j))) (yh (O4 (R:=R) (E:=E) (j:=j)));obtain⟨M,A⟩:=bQ (max E (gO R j));rw [<-A] at AE Tp⊢;have Q:=yh A;clear A cu;by_cases bq:j<L.n
  .have cC:(j:Int)<(L.n:Int):=(by omega);have z:=jN ((O.o.later ew).later (ai (bi wr.heap.size wr))) (L.f+2+j) (by omega) (by omega);have mr:=bu PK.o (L.f+2+j) (by omega);have dC:=Fy.o.now (L.f+2+j);have u:=d.o j;rw [show ((L.f+2+j:Nat):Int)=(L.f:Int)+2+(j:Int) by omega] at z;have yn:IntKind.i64.wrap ((L.f:Int)+2)=(L.f:Int)+2:=(by rw [IntKind.wrap_i64];omega);have aeV:IntKind.i64.wrap ((L.f:Int)+2+(j:Int))=(L.f:Int)+2+(j:Int):=(by rw [IntKind.wrap_i64];omega);generalize S.now (L.f+2+j)=l at*;have N:=D2 l;have gX:=pX dC;have Wy:=yh (O2 (l:=l));have c:=yh (λa b=>(vP (l:=l) a b).1);have t:=(km dC).1;rw [u] at Wy c t;clear ew u;go_wp2_with fail;go_region_held3 (λw'=>w'.cell? (aD k 0)=some (pQ r)/\w'.cell? (aD k 2)=some (iV (L.f:Int)))
    (first|exact⟨D,G⟩)
      ((go_at_call 40;refine z.mono ?_;rintro e w1 ⟨g,Y,rfl,hFg,be,bL⟩;have jP:=bL.symm;clear bL;subst jP))
   have gu:=be.src;rw [mr] at gu;have H:=qT (some (aD g 0)) 512 Y l wr.drew gu dC;clear z be gu D G W;go_wp2_with fail;refine H.mono ?_;rintro e w2 ⟨v2,rfl,jw,bd⟩;obtain⟨U,rK,rfl,bo,_,_⟩:=jw.src;obtain⟨dP,xC⟩:=bU (C.o.trans ((ai (bi wr.heap.size wr)).trans bd |>.mono hz)) bo;clear H bd jw bo;by_cases x:(aX l).2=0
   .by_cases k2:(aX l).1.length<12
    .have d2:((aX l).1.length:Int)<12:=(by omega);have y:=yh (AE.o (.inl (by rw [Wy.o (.inr k2)];omega)));rw [x];go_wp2;go_roundw;case rel=>exact⟨j+1,by omega,by go_num,by rw [y.o],dP.o⟩
     case measure=>simp [intOf];omega
    .have d2:¬((aX l).1.length:Int)<12:=(by omega);have v:=bC U _ rK _ w2 xC.o gX 0 4 (by omega) (by omega) (by omega);rw [<-c.o x (by omega),show (((0:Nat)):Int)=0 from rfl,show (((4:Nat)):Int)=4 from rfl] at v;rw [x];clear c Wy;obtain⟨X,J⟩:=bQ ((R j).e);rw [<-J] at v t AE Tp;clear J;go_wp2_with fail;refine bN v λw3 eG=>?_;have eW:=eG.symm;clear eG v;subst eW;by_cases x1:X<1
     .have y1:¬(1:Int)<=(X:Int):=(by omega);go_wp2;go_roundw;case rel=>exact⟨j+1,by omega,by go_num,by rw [(yh (AE.o (.inl x1))).out],dP.o⟩
      case measure=>simp [intOf];omega
     .have y1:(1:Int)<=(X:Int):=(by omega);by_cases x2:1073741824<X
      .have y2:¬(X:Int)<=1073741824:=(by omega);go_wp2;go_roundw;case rel=>exact⟨j+1,by omega,by go_num,by rw [(yh (AE.o (.inr (.inl x2)))).out],dP.o⟩
       case measure=>simp [intOf];omega
      .have y2:(X:Int)<=1073741824:=(by omega);by_cases x3:M<X
       .have y3:(M:Int)<(X:Int):=(by omega);go_wp2;go_roundw;case rel=>exact⟨j+1,by omega,by go_num,by rw [(yh (Tp.o (by omega) x3)).out],dP.o⟩
        case measure=>simp [intOf];omega
       .have y3:¬(M:Int)<(X:Int):=(by omega);go_wp2;go_roundw;case rel=>exact⟨j+1,by omega,by go_num,by rw [(yh (AE.o (.inr (.inr (by omega))))).out],dP.o⟩
        case measure=>simp [intOf];omega
   .have d1:(((aX l).2:Int) == 0)=false:=(by rw [fJ];omega);have Z:(((aX l).2:Int) != 0)=true:=(by rw [gB];omega);have y:=yh (AE.o (.inl (by rw [Wy.o (.inl x)];omega)));go_wp2;go_roundw;case rel=>exact⟨j+1,by omega,by go_num,by rw [y.o],dP.o⟩
    case measure=>simp [intOf];omega
  .obtain rfl:j=L.n:=(by omega);have wq:¬(L.n:Int)<(L.n:Int):=(by omega);go_wp2;go_ret;exact⟨by rw [<-Q.o];rfl,C.o⟩
end
end
section
def AF {R:Nat->PC} {P:Nat}:∀c,1<=c->(R P).d.length<=(ll R P c).length
 |0,h=>by omega
 |c+1,_=>by
  rw [iB,ed];by_cases e:c=0
  .subst e;rw [Nat.add_zero];omega
  .have:=AF (R:=R) (P:=P) c (by omega);omega
def Rec.some (h:Rec R E P c d):0<d.length:=by
 have a:=(h.2.2.1 0 (by have:=h.1;omega)).2.2.2.2.1;rw [Nat.add_zero] at a;have:=AF (R:=R) (P:=P) c h.1;rw [h.2.2.2];omega
section
variable {w w':World} {F G:Nat->Prop} {r s k:Nat} {S:DS} {L:LG}
structure Tq (w':World) (B k r:Nat) (L:LG) (S:DS) (v:Value) (rs:List (List Int)) (hd:Nat):Prop where
 rc:dQ w' B v rs (λ_=>False)
 t:dF (Rp (dZ S L.f) L.n) (b9 S L.f).1 (b9 S L.f).2.1 rs hd
 x:∀c d,¬Rec (Rp (dZ S L.f) L.n) (b9 S L.f).1 hd c d
 p:cK w' k r {L with ep:=(b9 S L.f).1,tail:=(b9 S L.f).2.1,head:=hd,top:=ir S L.f L.n}
def rq (w w':World) (r s:Nat) (S:DS) (f n:Int) (e:Ending):Prop:=
 if (bA S s f n).1≠0 then e= .returned (.tuple #[.pointer none, .slice none 0 0,iV (bA S s f n).1])
 else∃k v rs hd,e= .returned (.tuple #[pQ k,v,iV 0])/\w.heap.size<=k/\Tq w' w.heap.size k r (LG.new S f.toNat n.toNat) S v rs hd
def cK.Kg (h:cK w k r L) (T:Nat):cK (w.setCell ⟨k,7,none⟩ (.int .i64 (T:Int))) k r {L with top:=T}:=
   (heap_setCell_same _ _ 7 _ _ _ h).trans (by simp)
def cK.aaY (h:cK w k r L) (T:Int) (n:Nat) (a:T=(n:Int)):cK (w.setCell ⟨k,6,none⟩ (.int .i64 T)) k r {L with head:=n}:=by
 subst a;exact(heap_setCell_same _ _ 6 _ _ _ h).trans (by simp)
def dQ.marked {B:Nat} {X:Nat->Prop} (h:dQ w B v rs X) (f:cK w k r L) (j:Nat) (u:Value):dQ (w.setCell ⟨k,j,none⟩ u) B v rs X:=by
 have dM:∀(g:Nat) (t:TypeId) (cur:Array Value),w.heap[g]? =some (Obj.cells cur t (0,0))->t≠200->(w.setCell ⟨k,j,none⟩ u).heap[g]? =w.heap[g]? :=λg t cur a i=>by
  have:g≠k:=λe=>by subst e;exact ud a f i
  exact(aL (F:=λb=>b=k) w rfl j u).block g (aq a) this
 refine h.step (λg d=>?_) (λg cur a _=>dM g _ cur a (by decide)) (λ_ _ h=>h);obtain⟨l,c,_⟩:=h;obtain⟨cur,a⟩:=bz c d;exact dM g _ cur a (by decide)
def O5 {B:Nat} (h:dQ W B v rs (λ_=>False)) (l:ay W 5 g c (bs d)) (p:B<=g) (UQ:B<=W.heap.size) (pF:rs.length<=1000000):
  ∃v' w',(Builtin.append_ #[62,62] 62 #[v, .slice (some (aD W.heap.size 0)) 1 1]).run prog (W.alloc (.cells #[.slice (some ⟨g,0,none⟩) d.length c] 36))= .ok v' w'/\dQ w' B v' (rs ++ [d]) (λ_=>False)/\Below B W w'/\∀(b:Nat) (cur:Array Value),W.heap[b]? =some (.cells cur 200 (0,0))->w'.heap[b]? =some (.cells cur 200 (0,0)):=by
 obtain⟨u,e,o⟩:=h;obtain⟨t,Rj,w',bD,s,f⟩:=Mr e (.slice (some (aD g 0)) d.length c) rfl pF UQ;have iq:=aJ W (.cells #[.slice (some ⟨g,0,none⟩) d.length c] 36);have Y5:=dR e (λx a=>by
  obtain⟨cur,q⟩:=bz e a;exact iq.block x (aq q))
 refine⟨_,w',bD,CJ Y5 (λi r=>?_) (l.agree (iq.block g l.lt)) p s f,?_,λb cur k=>?_⟩
 .obtain⟨x,y,m,j,n,_⟩:=o i r;exact⟨x,y,m,j.agree (iq.block x j.lt),n⟩
 .exact(iq.mono UQ).grown f (j4 UQ iq.size) (λx a=>jv e a)
 .exact p8 f (λx a=>bz Y5 a) ((iq.block b (aq k)).trans k) (by decide)
end
end
section
def B2 {S:DS} {s:Nat} {n:Int} (h:cy S s f n≠0):bA S s f n=(cy S s f n,S):=by unfold bA;rw [aG h]
def jh {S:DS} {s b:Nat} (h:cy S s a b=0) (c:(b9 S a).2.2=6):bA S s a b=(6,S.take):=by
 unfold bA;rw [aB (by omega),Int.toNat_natCast,aG (by omega),c];rfl
def Li {S:DS} {s b:Nat} (h:cy S s a b=0) (d:(b9 S a).2.2=0) (c:ir S a b=1073741824):bA S s a b=(41,S.take):=by
 unfold bA;rw [aB (by omega),Int.toNat_natCast,Int.toNat_natCast,aB (by omega),aG c]
def In {S:DS} {s b:Nat} (h:cy S s a b=0) (d:(b9 S a).2.2=0) (c:ir S a b≠1073741824):bA S s a b=S.take.fl s:=by
 unfold bA;rw [aB (by omega),Int.toNat_natCast,Int.toNat_natCast,aB (by omega),aB c]
section
variable {w w':World} {F G:Nat->Prop} {r s k:Nat} {S:DS} {L:LG}
def iI {n:Int} {c:Int} {T:DS} (h:bA S s f n=(c,T)) (a:c≠0) (hd:aC w' F r s T) (b:aa F w w'):rq w w' r s S f n (.returned (.tuple #[.pointer none, .slice none 0 0,iV c]))/\aC w' F r s (bA S s f n).2/\aa F w w':=by
 unfold rq;rw [h];exact⟨by rw [aG a],hd,b⟩
def Io {b:Nat} (h:bA S s (a:Int) (b:Int)=S.take.fl s) (c:(S.take.fl s).1=0) (UR:aC w' F r s (S.take.fl s).2) (d:aa F w w') (mn:w.heap.size<=k) (e:Tq w' w.heap.size k r (LG.new S a b) S v rs hd):
  rq w w' r s S (a:Int) (b:Int) (.returned (.tuple #[pQ k,v,iV 0]))/\aC w' F r s (bA S s (a:Int) (b:Int)).2/\aa F w w':=by
 unfold rq;rw [h];refine⟨?_,UR,d⟩;rw [aB (λh=>h c)];exact⟨k,v,rs,hd,rfl,mn,e⟩
def Tr {B:Nat} {xs:List Value} (h:W.ownsRow B e 1 v n xs) (b:v.ownBlock=some g):g<W.heap.size:=by
 obtain⟨cur,a⟩:=bz h b;exact aq a
def O6 (h:aC w F r s S) (dC:S.fL) (f n:Int) (aU:S.puts.length+500<=4000000000000):
  Calls prog 122 #[pQ r,iV f,iV n] w λe w'=>rq w w' r s S f n e/\aC w' F r s (bA S s f n).2/\aa F w w':=by
 have m:=CS h f n;have iK:=yh h.lt;have HD:=yh h;go_in;go_wp2_with fail;by_cases q:cy S s f n=0
 .have C:=yh q;obtain⟨ZD,a,b,rfl,rfl,oJ,ar,bd⟩:=fV q;rw [q] at m;have hs:=h.ok.hi;have W:=zE h;have hlA:=bu h.ok a (by omega);have hlB:=bu h.ok (a+1) (by omega);have lC:=rR (S.now a) (S.now (a+1));have u:b9 S a=ik (S.now a) (S.now (a+1)):=rfl;have Fy:=yh dC;have HN:=yh (λa1 c1 a2 c2 w1 q1 q2=>mz a1 512 c1 (S.now a) a2 512 c2 (S.now (a+1)) w1 q1 q2 (dC.now a) (dC.now (a+1)));have mr:=Gj (S.now a) (S.now (a+1));unfold ik at u;generalize am (S.now a) (S.now (a+1))=X at*;obtain⟨x1,N,D,ER⟩:=X;simp only at u lC HN mr;have Lj:=yh u;clear h q dC u;refine bN m λw1 bL=>?_;have jP:=bL.symm;clear bL;subst jP;clear m;go_wp2_with fail;refine fR W λI cI aY=>?_;have sB:=yh cI;have ig:=yh aY;have ev:=aY.size;have h3:=jN cI a (by omega) (by show S.puts.length<=_;omega);have h4:=jN cI (a+1) (by omega) (by show S.puts.length<=_;omega);rw [show ((a+1:Nat):Int)=(a:Int)+1 by omega] at h4;clear W cI aY;go_wp2_with fail;refine h3.mono ?_;rintro e w3 ⟨g3,c3,rfl,_,rO,eG⟩;have eW:=eG.symm;clear eG;subst eW;have fK:=rO.src;rw [show S.take.now a=S.now a from rfl,hlA] at fK;have K:=yh fK;clear h3 rO fK;go_wp2_with fail;refine h4.mono ?_;rintro e w4 ⟨g4,c4,rfl,_,MR,px⟩;have EP:=px.symm;clear px;subst EP;have Ep:=MR.src;rw [show S.take.now (a+1)=S.now (a+1) from rfl,hlB] at Ep;have h5:=HN.o (some (aD g3 0)) c3 (some (aD g4 0)) c4 I K.o Ep;clear h4 MR Ep HN K;go_wp2_with fail;refine h5.mono ?_;rintro e w5 ⟨v5,rfl,BD,fa⟩;obtain⟨a5,c5,rfl,X5,_,_⟩:=BD.src;have jr:=yh fa;have pR:=fa.size;have l:Yh (aa F w w5):=ig.o.trans (aa.ah F fa) (λ_ h=> .inl h);have k:=yh (sB.o.later fa);clear h5 BD fa X5;have q1:(N:Int).tdiv 4294967296=((N / 4294967296:Nat):Int):=by rw [Int.tdiv_eq_ediv_of_nonneg (by omega)];omega
  have q2:(N:Int).tmod 4294967296=((N%4294967296:Nat):Int):=by rw [Int.tmod_eq_emod_of_nonneg (by omega)];omega
  have hE0:N / 4294967296<=2147483647:=by omega
  have hT0:N%4294967296<4294967296:=by omega
  obtain⟨E,hE⟩:=bQ (N / 4294967296);obtain⟨T,hT⟩:=bQ (N%4294967296);obtain⟨U,qR⟩:=bQ D.length;rw [<-hE] at q1 hE0 Lj;rw [<-hT] at q2 hT0 Lj;rw [<-qR] at Lj mr⊢;clear hE hT qR;by_cases k1:ER=0
  .subst k1;by_cases k2:0<U
   .have j:=yh (jh (b:=b) C.o (by rw [Lj.o,aG (.inr (.inl k2))]));have d2:(0:Int)<(U:Int):=(by omega);clear Lj;go_wp2;go_ret3;exact iI j.o (by omega) k.o l.o
   .have d2:¬(0:Int)<(U:Int):=(by omega);obtain rfl:U=0:=(by omega);by_cases k3:E<1
    .have j:=yh (jh (b:=b) C.o (by rw [Lj.o,aG (.inr (.inr (.inl k3)))]));have d3:(E:Int)<1:=(by omega);clear Lj;go_wp2;go_ret3;exact iI j.o (by omega) k.o l.o
    .have d3:¬(E:Int)<1:=(by omega);by_cases k4:1073741824<E
     .have j:=yh (jh (b:=b) C.o (by rw [Lj.o,aG (.inr (.inr (.inr (.inl k4))))]));have d4:(1073741824:Int)<(E:Int):=(by omega);clear Lj;go_wp2;go_ret3;exact iI j.o (by omega) k.o l.o
     .have d4:¬(1073741824:Int)<(E:Int):=(by omega);by_cases k5:1073741824<T
      .have j:=yh (jh (b:=b) C.o (by rw [Lj.o,aG (.inr (.inr (.inr (.inr k5))))]));have d5:(1073741824:Int)<(T:Int):=(by omega);clear Lj;go_wp2;go_ret3;exact iI j.o (by omega) k.o l.o
      .have d5:¬(1073741824:Int)<(T:Int):=(by omega);have A:Yh (b9 S a=(E,T,0)):=by
        have:=Lj.o;rw [aB (by omega)] at this;exact this
       clear Lj;have MM:cK (w5.alloc (.cells (lrC r ⟨a,b,wrap64 (S.life+1),false,E,T,T,0⟩) 200)) w5.heap.size r ⟨a,b,wrap64 (S.life+1),false,E,T,T,0⟩:=heap_alloc_new _ _;have nI:=aJ w5 (.cells (lrC r ⟨a,b,wrap64 (S.life+1),false,E,T,T,0⟩) 200);have Y:=To E (k.o.later nI) MM Fy.o.take (by show a+2+b<=s;omega) (by show S.puts.length+1<=_;omega) (by omega);have DY:max E (gO (dZ S.take a) b)=ir S a b:=(by unfold ir;rw [A.o];rfl);rw [show (({f:=a,n:=b,life:=wrap64 (S.life+1),begun:=false,ep:=E,tail:=T,head:=T,top:=0}:LG).f)=a from rfl,show (({f:=a,n:=b,life:=wrap64 (S.life+1),begun:=false,ep:=E,tail:=T,head:=T,top:=0}:LG).n)=b from rfl,DY] at Y;have An:=Ea (S:=S) (f:=a) (n:=b) (by rw [A.o]);obtain⟨Q,hQ⟩:=bQ (ir S a b);rw [<-hQ] at Y An;obtain⟨G,HL6,xy⟩:=kI hQ MM nI;have RF:(w5.alloc (.cells (lrC r ⟨a,b,wrap64 (S.life+1),false,E,T,T,0⟩) 200)).heap.size=w5.heap.size+1:=(by simp);clear hQ DY MM nI;go_wp2_with fail;refine bN Y λZ xB=>?_;have C9:=HL6.o.later xB;have FA:Yh (bW I Z):=jr.o.trans ((xy.o.trans (xB.mono (by omega))).mono pR);have c7:=C9.c7;have f7:=C9.fz 7;have Da:=C9.Kg Q;have HL8:=yh Da;have c7':(Z.setCell ⟨w5.heap.size,7,none⟩ (.int .i64 (Q:Int))).cell? (aD w5.heap.size 7)=some (iV (Q:Int)):=Da.c7;have Yr:Yh (bW I (Z.setCell ⟨w5.heap.size,7,none⟩ (.int .i64 (Q:Int)))):=FA.o.setCell (p:=⟨w5.heap.size,7,none⟩) pR _;clear Y xB C9 Da FA;by_cases R:Q=1073741824
       .have j:=yh (Li C.o (by rw [A.o]) (G.o.symm.trans R));have d6:((Q:Int) == 1073741824)=true:=(by rw [R];rfl);clear R;have UG:Yh (aa F w _):=ig.o.trans (aa.ah F Yr.o) (λ_ h=> .inl h);go_wp2;go_ret3;exact iI j.o (by omega) (yh (sB.o.later Yr.o)).out UG.o
       .have d6:¬(Q:Int)=1073741824:=(by omega);have d6':((Q:Int) == 1073741824)=false:=(by rw [fJ];omega);have j:=yh (In C.o (by rw [A.o]) (λh=>R (G.o.trans h)));go_wp2;generalize Z.setCell ⟨w5.heap.size,7,none⟩ (.int .i64 (Q:Int))=w8 at*;clear c7 c7' f7 R d6 d6';go_loopw [20] (λv wr=>∃(rs:List (List Int)) (hd:Nat),cK wr w5.heap.size r ⟨a,b,wrap64 (S.life+1),false,E,T,hd,Q⟩/\dQ wr I.heap.size v rs (λ_=>False)/\dF (Rp (dZ S a) b) E T rs hd/\bW I wr) (λ_ wr=>T+b-(intOf ((wr.cell? (aD w5.heap.size 6)).getD (.bool false))).toNat);case atStart=>exact⟨[],T,HL8.o,dQ.nil _ _ _,dF.nil _ _ _,Yr.o⟩
        case round=>
         obtain⟨rs,hd,BQ,Gv,An,ew⟩:=hrel;have hdb:=dF.round (by omega) (tZ (dZ S a) b) An;have rJ:=dF.length An;have c6:wr.cell? (aD w5.heap.size 6)=some (iV (hd:Int)):=BQ.c6;obtain⟨is,RY,WY,L,mm,Aj,HC6⟩:=nA (WV E hd (sB.o.later ew) BQ Fy.o.take (by show a+2+b<=s;omega) (by show 1<=b;omega) (by show S.puts.length+1<=_;omega) (by omega) (by omega)) (yh BQ) (yh Gv) (yh An) (yh ew) ew.size (yh c6);clear BQ Gv An ew;go_wp2_with fail;refine is.mono ?_;rintro e w9 ⟨v9,n9,rfl,hao,Ba⟩;have hz9:=Ba.size;rcases hao with ⟨c,d,Fz,rfl,aA⟩|⟨rfl,rfl,jc⟩
         .have A9:=Fz.1;have aqZ:=Fz.2.1;have d9:((c:Int) == 0)=false:=(by rw [fJ];omega);obtain⟨g,cg,rfl,hg,be⟩:=aA.Vs Fz.some;obtain⟨v',Ts,bD,DE,ae6,P⟩:=O5 (WY.o.cells (eA Ba)) be (by omega) (by omega) (by omega);have Tt:cK Ts w5.heap.size r ⟨a,b,wrap64 (S.life+1),false,E,T,hd,Q⟩:=P _ _ (RY.o.later Ba);have c6':Ts.cell? (aD w5.heap.size 6)=some (iV (hd:Int)):=Tt.c6;have f6:=Tt.fz 6;have YB:=L.o.snoc (show Rec (Rp (dZ S a) b) E hd c d from Fz);have D0:=dF.round (by omega) (tZ (dZ S a) b) YB;have nN:=yh bD;have BT:cK (Ts.setCell ⟨w5.heap.size,6,none⟩ (.int .i64 ((hd:Int)+(c:Int)))) w5.heap.size r ⟨a,b,wrap64 (S.life+1),false,E,T,hd+c,Q⟩:=Tt.aaY ((hd:Int)+(c:Int)) (hd+c) (by omega);have HZ:=yh (aH BT (aH (DE.marked Tt 6 (iV ((hd:Int)+(c:Int)))) (aH YB ((mm.o.trans ((Ba.mono Aj).trans ae6)).setCell (p:=⟨w5.heap.size,6,none⟩) pR (iV ((hd:Int)+(c:Int)))))));have aj7:Yh ((Ts.setCell ⟨w5.heap.size,6,none⟩ (.int .i64 ((hd:Int)+(c:Int)))).cell? (aD w5.heap.size 6)=some (iV ((hd+c:Nat):Int))):=BT.c6;clear is Ba bD DE ae6 P Tt BT YB be aA Fz c6;go_wp2_with (at_builtin;refine br rfl _ _ 62 rfl u20 (.slice (some (aD w9.heap.size 0)) 1 1) _ rfl rfl nN.o ?_);go_wp2;go_roundw;case rel=>exact⟨rs ++ [d],hd+c,HZ.o⟩
          case measure=>
           rw [HC6.o,aj7.o];simp [intOf];omega
         .have jX:=GI (sB.o.later (mm.o.trans (Ba.mono Aj))) (by show S.puts.length+1<=_;omega);have aj8:=yh (WY.o.cells (eA Ba));have HL9:=yh (RY.o.later Ba);have J:Yh (bW I w9):=mm.o.trans (Ba.mono Aj);have tj:=yh jc;clear is Ba jc c6;by_cases H:(S.take.fl s).1=0
          .rw [H] at jX;go_wp2_with fail;refine fR jX λTs Tu Ip=>?_;have y:Yh (aa F w Ts):=ig.o.trans ((aa.ah F J.o).trans Ip (λ_ h=> .inl h)) (λ_ h=> .inl h);have x:=yh Tu;have t:=iK.o;have HT:Yh (Tq Ts w.heap.size w5.heap.size r (LG.new S a b) S u20 rs hd):=by
            refine⟨?_,by show dF (Rp (dZ S a) b) (b9 S a).1 (b9 S a).2.1 rs hd;rw [A.o];exact L.o,by show∀c d,¬Rec (Rp (dZ S a) b) (b9 S a).1 hd c d;rw [A.o];exact tj.o,?_⟩
            .obtain⟨vs,m,W⟩:=aj8.o.low ev (λ_ h=>h);refine⟨vs,dR m (λg hg=>Ip.block g (Tr m hg) (λM=>by have:=jv m hg;have:=t _ M;omega)),λi hi=>?_⟩;obtain⟨g,c,e,hr,hb,hx⟩:=W i hi;exact⟨g,c,e,hr.agree (Ip.block g hr.lt (λM=>by have:=t _ M;omega)),hb,hx⟩
            .have e1:({LG.new S a b with ep:=(b9 S a).1,tail:=(b9 S a).2.1,head:=hd,top:=ir S a b}:LG)=⟨a,b,wrap64 (S.life+1),false,E,T,hd,Q⟩:=(by rw [A.o,G.o];rfl);show cK Ts w5.heap.size r ({LG.new S a b with ep:=(b9 S a).1,tail:=(b9 S a).2.1,head:=hd,top:=ir S a b}:LG);rw [e1];exact HL9.o.aw Ip (λM=>by have:=t _ M;omega)
           have HK7:=yh H;clear jX Tu Ip H t;go_wp2;go_ret3;exact Io j.o HK7.o x.o y.o (by omega) HT.o
          .have O:=ly H;have d7:((S.take.fl s).1 == 0)=false:=(by rw [fJ];exact H);have d7':((S.take.fl s).1 != 0)=true:=(by rw [gB];exact H);have HP3:Yh (bA S s (a:Int) (b:Int)=(3,(S.take.fl s).2)):=by
            rw [j.o];exact Prod.ext O.2.2 rfl
           obtain⟨z,hz⟩:=bQ ((S.take.fl s).1);rw [<-hz] at jX d7 d7';clear H O hz;go_wp2_with fail;refine fR jX λTs Tu Ip=>?_;have y:Yh (aa F w Ts):=ig.o.trans ((aa.ah F J.o).trans Ip (λ_ h=> .inl h)) (λ_ h=> .inl h);have x:=yh Tu;clear jX Tu Ip;go_wp2;go_ret3;exact iI HP3.o (by omega) x.o y.o
  .have j:=yh (jh (b:=b) C.o (by rw [Lj.o,aG (.inl k1)]));have d1':((ER:Int) != 0)=true:=(by rw [gB];omega);clear Lj;go_wp2;go_ret3;exact iI j.o (by omega) k.o l.o
 .have d:(cy S s f n == 0)=false:=by rw [fJ];exact q
  have d':(cy S s f n != 0)=true:=by rw [gB];exact q
  refine bN m λw1 bL=>?_;have jP:=bL.symm;clear bL;subst jP;clear m;go_wp2;go_ret3;exact iI (yh (B2 q)).out q HD.o (aa.refl _ _)
end
end
section
def eI (w:World) (F:Nat->Prop) (r s:Nat) (S:DS) (e:Ending) (w':World):Prop:=∃x S',j1 S s x S'/\aa F w w'/\((x≠0/\e= .returned (.tuple #[.pointer none,iV x])/\aC w' (more F w w') r s S')\/(x=0/\∃(k kl:Nat) (L:LG) (F' X:Nat->Prop),tp S s L/\e= .returned (.tuple #[pQ k,iV 0])/\(∀j,F' j->more F w w' j)/\(∀j,X j->w.heap.size<=j)/\aC w' F' r s S'/\iL w' F' X r s S' k kl ⟨cE (S.now 0),L, [],false⟩ (.slice none 0 0) [] 0 (.pointer none)))
section
variable {w w':World} {F:Nat->Prop} {r s:Nat} {S:DS}
def Iq (hd:aC w F r s S) (b:S.fuse=0):
  Calls prog 68 #[pQ r] w λe w'=>eI w F r s S e w':=by
 have a:=kq hd;rw [show (S.fuse == 0)=true by simp [b]] at a;go_in;go_wp2_with fail;refine bN a λw1 bL=>?_;subst bL;go_wp2;go_ret2;exact⟨3,S, .inl ⟨.inl ⟨b,rfl,rfl⟩,by decide,rfl⟩,aa.refl _ _, .inl ⟨by decide,rfl,hd.mono (λ_ h=> .inl h) (λk c=>c.elim (λh=>hd.lt k h) (λh=>h.2))⟩⟩
def eI.bad (hd:aC w F r s S) (c:S.fuse≠0) (jc:¬mM (S.now 0) s) (a:bW w w'):eI w F r s S (.returned (.tuple #[.pointer none,iV 6])) w':=by
 have h:=hd.later a;exact⟨6,S, .inl ⟨.inr (.inr ⟨c,jc,rfl,rfl⟩),by decide,rfl⟩,aa.ah _ a, .inl ⟨by decide,rfl,h.mono (λ_ h=> .inl h) (λk d=>d.elim (λb=>h.lt k b) (λh=>h.2))⟩⟩
def MS {S:DS} {s:Nat}:(L.start S s).2.2.f+2+(L.start S s).2.2.n=L.f+2+L.n:=by
 unfold LG.start;split
 .rfl
 .split
  .rfl
  .split <;> rfl
def eI.fail (bq:∀j,F j->j<w.heap.size) (mi:j1 S s x S') (d:x≠0) (hd:aC w' F7 r s S') (b:∀j,F7 j->more F w w' j) (a:aa F w w'):eI w F r s S (.returned (.tuple #[.pointer none,iV x])) w':=
   ⟨x,S',mi,a, .inl ⟨d,rfl,hd.mono b (λj c=>c.elim (λh=>i6 (bq j h) a.size) (λh=>h.2))⟩⟩
def eI.done {k a:World} (p:y=cE (S.now 0)) (m:∀j,F j->j<w.heap.size) (mi:j1 S s 0 S') (mV:tp S s L) (l:∀j,F7 j->more F w k j) (gQ:aa F w k) (oo:w.heap.size<=kl) (O7:¬F7 kl) (aq3:kl<k.heap.size) (oR:aC a (more F7 k a) r s S') (Da:cK a kl r L) (jW:aa (λj=>F7 j\/j=kl) k a) (A7:L.Ok s) (vF:L.begun=true) (X9:y.home+y.blocks<=s) (BT:L.f+2+L.n<=y.home):
  eI w F r s S (.returned (.tuple #[pQ a.heap.size,iV 0])) (a.alloc (.cells (rsC r kl y (.slice none 0 0) 0 (.pointer none)) 129)):=by
 have q:=jW.size;have ph:bW a (a.alloc (.cells (rsC r kl y (.slice none 0 0) 0 (.pointer none)) 129)):=(bi a.heap.size a).alloc (bS _) _;have ee:(a.alloc (.cells (rsC r kl y (.slice none 0 0) 0 (.pointer none)) 129)).heap.size=a.heap.size+1:=by simp
 refine⟨0,S',mi,?_, .inr ⟨rfl,a.heap.size,kl,L,more F7 k a,(λj=>j=a.heap.size\/j=kl),mV,rfl,λj d=>?_,λj d=>?_,oR.later ph,?_⟩⟩
 .refine(gQ.trans jW (λj d=>?_)).trans (aa.ah (λ_=>False) ph) (λ_ h=>h.elim);rcases d with d|d
  .exact(l j d).imp id (λh=>h.1)
  .exact .inr (by omega)
 .rcases d with d|d
  .exact(l j d).imp id (λh=>⟨h.1,by omega⟩)
  .exact .inr ⟨by omega,by omega⟩
 .rcases d with d|d <;> omega
 .subst p;refine⟨heap_alloc_new _ _,Da.later ph,Pl.nil _ _, .inl rfl, .inr rfl,λg e i=>?_,λg e=>?_,A7,vF,X9,BT,rfl,dV _,λx i=>(by cases i),λ_ b _ _ c o=>(by cases o)⟩
  .rcases e with e|e
   .have:=oR.lt g i;omega
   .rcases i with i|i
    .exact O7 (e▸i)
    .omega
  .rcases e with e|e <;> omega
def Ir (hd:aC w F r s S) (hf:S.fuse≠0) (dC:S.fL) (aU:S.puts.length+6000<=4000000000000):
  Calls prog 68 #[pQ r] w λe w'=>eI w F r s S e w':=by
 have h1:=kq hd;rw [show (S.fuse == 0)=false by simp [hf]] at h1;have yD:=hd.ok.lo;have lC:=hd.ok.hi;have h2:=jN hd 0 (by omega) (by omega);have hl:=bu hd.ok 0 (by omega);have hbn:=dC.now 0;obtain⟨HSi,K,HF,HBn⟩:=Bo (De hbn hl) hd hf hbn;have Fy:=yh dC;clear hd hf;go_in;go_wp2_with fail;refine bN h1 λw1 bL=>?_;subst bL;clear h1;go_wp2_with fail;refine h2.mono ?_;rintro e w2 ⟨g,c,rfl,hFg,hr,dD⟩;subst dD;have h3:=BZ g 0 c (S.now 0) w2 hl HBn.o (λi Q=>by have:=hr.src.2.2 _ rfl i (by rw [hl];exact Q);rwa [aN] at this);clear h2 hr;go_wp2_with fail;refine h3.mono ?_;rintro e w3 ⟨v,x,rfl,mi,bF⟩;clear h3
 rename World=>W0
 rcases mi with ⟨h0,rfl,rfl⟩|⟨h0,rfl,rfl⟩
 .have Is:oT (S.now 0):=HSi.o.2 h0;have uL:=h0.1;clear h0;obtain⟨W,O⟩:∃W,W=W0.alloc (.cells #[.int .i64 ((u32 (S.now 0) 8:Nat):Int), .int .i64 ((u32 (S.now 0) 12:Nat):Int), .int .i64 ((u32 (S.now 0) 16:Nat):Int)] 39):=⟨_,rfl⟩;have iq:W.heap[W0.heap.size]? =some (.cells #[.int .i64 ((u32 (S.now 0) 8:Nat):Int), .int .i64 ((u32 (S.now 0) 12:Nat):Int), .int .i64 ((u32 (S.now 0) 16:Nat):Int)] 39 (0,0)):=by rw [O];exact heap_alloc_new _ _
  have UQ:bW w2 W:=by rw [O];exact bF.alloc bF.size _
  have aq4:=bF.size;have Ie:W.heap.size=W0.heap.size+1:=by rw [O,World.size_alloc]
  go_wp2_with fail;rw [<-O];clear O bF;have hdW:=K.o.later UQ;have c0:=aM iq;have nT:=λk=>mE (hdW.later (below_drewN (bi _ _) k));have HW:=yh (aH hdW (aH UQ iq));clear hdW UQ iq;by_cases oH:u32 (S.now 0) 8=s
  .have WO:(((u32 (S.now 0) 8:Nat):Int) != ((s:Nat):Int))=false:=(by rw [oH];simp);have Ll:Yh (mM (S.now 0) s):=yh ⟨Is,oH⟩;have HXs:=yh oH;clear oH;go_quiet (first|(go_at_call 11;refine Calls.quiet_of_same (nT _)));rename_i nq _;have H:bW W (W.drewN nq):=below_drewN (bi _ _) nq;have fd:=yh (aH (HW.o.1.later H) (aH (HW.o.2.1.trans (H.mono HW.o.2.1.size)) ((H.block W0.heap.size (by omega)).trans HW.o.2.2)));have aq5:(W.drewN nq).heap.size=W0.heap.size+1:=Ie;clear HW c0 nT H Ie;generalize W.drewN nq=V at*;have x0:=aM fd.o.2.2;have x1:V.cell? (aD W0.heap.size 1)=some (iV ((u32 (S.now 0) 12:Nat):Int)):=bG fd.o.2.2;have x2:=bK fd.o.2.2;have h3g:((u32 (S.now 0) 12:Nat):Int)+((u32 (S.now 0) 16:Nat):Int) / 4+6<=(s:Int):=by
    have:=uL;unfold vJ at this;rw [HXs.o] at this;omega
   have Tv:Calls prog 61 #[.agg #[iV ((u32 (S.now 0) 8:Nat):Int),iV ((u32 (S.now 0) 12:Nat):Int),iV ((u32 (S.now 0) 16:Nat):Int)]] V λe w'=>e= .returned (.tuple #[PQ (cE (S.now 0)),iV 0])/\bW V w':=by
    refine(vS ((u32 (S.now 0) 8:Nat):Int) ((u32 (S.now 0) 12:Nat):Int) ((u32 (S.now 0) 16:Nat):Int) V).mono ?_;rintro e d ⟨v,x,rfl,UN,MT⟩;rcases UN with ⟨_,rfl,rfl⟩|⟨h9,_⟩
    .refine⟨?_,MT⟩;rw [show ((u32 (S.now 0) 8:Nat):Int)=(s:Int) by rw [HXs.o]];exact SX (S.now 0) HXs.o h3g
    .exact absurd uL h9
   have I:=ky Ll.o;have hyl:((u32 (S.now 0) 12:Nat):Int)=((cE (S.now 0)).log:Int):=rfl;obtain⟨y,hy⟩:=bQ (cE (S.now 0));rw [<-hy] at Tv I hyl;obtain⟨a,HYl⟩:=bU hy hyl;clear uL Is h3g hyl hy;go_wp2_with fail;refine bN Tv λd MT=>?_;clear Tv;have YC:=MT.size;obtain⟨U,hU⟩:∃U,U=d.alloc (.cells #[.int .i64 (y.log:Int), .int .i64 (y.home:Int), .int .i64 (y.blocks:Int), .int .i64 (y.nodes:Int), .int .i64 (y.data:Int)] 86):=⟨_,rfl⟩;have hux:U.heap[d.heap.size]? =some (.cells #[.int .i64 (y.log:Int), .int .i64 (y.home:Int), .int .i64 (y.blocks:Int), .int .i64 (y.nodes:Int), .int .i64 (y.data:Int)] 86 (0,0)):=(by rw [hU];exact heap_alloc_new _ _);have US:bW w2 U:=(by rw [hU];exact(fd.o.2.1.trans (MT.mono fd.o.2.1.size)).alloc (by omega) _);have hzU:U.heap.size=d.heap.size+1:=(by rw [hU,World.size_alloc]);have x1U:U.cell? (aD W0.heap.size 1)=some (iV (y.log:Int)):=by
    have e1:bW V U:=(by rw [hU];exact MT.alloc YC _);rw [<-HYl.o];exact iF e1 (by omega) x1
   have hdU:=K.o.later US;have mj:=O6 hdU Fy.o 1 (y.log:Int) (by omega);have HU:=yh (aH hdU (aH US hux))
   dsimp only [PQ]
   clear x0 x1 x2 MT hdU US hux
   go_upto_region 7 with fail
   rw [<-hU];clear hU;go_wp2_with fail;refine mj.mono ?_;rintro e w4 ⟨uM,P,dW⟩;clear mj x1U;have ws:=dW.size;have MU:=λj b=>K.o.lt j b;have EQ:=(aa.ah F HU.o.2.1).trans dW (λ_ h=> .inl h);have aa0:=(dW.block d.heap.size (by omega) (λhF=>by have:=MU _ hF;omega)).trans HU.o.2.2;unfold rq at uM;by_cases q:(bA S s 1 (y.log:Int)).1=0
   .rw [aB (λh=>h q)] at uM;obtain⟨kl,v,rs,hd,rfl,oo,ht⟩:=uM;have FB:jR S 1 y.log rs hd:=⟨ht.t,ht.x⟩;have ae8:cK w4 kl r (fh S 1 y.log hd):=ht.p;obtain⟨W8,ES,It,Iu⟩:=mb (f:=1) q;obtain⟨vk,BM,_,_⟩:=FB.small Fy.o (by omega);have xN:=yt (s:=s) FB Fy.o ES It (by omega) (by omega) (by omega);obtain⟨ta,tn,tc,hv,YB,vl⟩:=ht.rc.ae1.shape;subst hv YB;obtain⟨A,HL4,HD4,SC,HUx,HCl,WJ,M,G,N⟩:=acx FB ae8 P EQ aa0 vl BM (aH ES (aH It Iu)) xN q;have dq:((bA S s 1 (y.log:Int)).1 != 0)=false:=(by rw [q];rfl);have hyb:=I.2.2.2.2;clear ht FB ae8 P dW EQ aa0 vl BM W8 ES It Iu xN fd q;go_wp2;go_loopw [11,12] (λv i wr=>∃(j:Nat) (ps:List (Nat×List Int)),j<=rs.length/\i=iV (j:Int)/\iH y.blocks [] rs=iH y.blocks (CM.bT [] ps) (rs.drop j)/\(∀x∈ps,x.1<y.blocks)/\ps.length<=16*j/\Pn wr (λj=>w4.heap.size<=j) w4.heap.size v ps/\bW w4 wr) (λ_ i _=>rs.length-(intOf i).toNat);case atStart=>exact⟨0, [],dV _,rfl,rfl,λx z=>(by cases z),dV _,Pn.nil _ _ _,bi _ _⟩
    case round=>
     obtain⟨j,ps,b,rfl,bV,Py,pC,nE,ew⟩:=hrel;obtain⟨Aj,Jp,mm,HPk⟩:=cO ew.size (yh nE) (yh ew) (yh Py);by_cases qj:j<rs.length
     .have qj':(j:Int)<(rs.length:Int):=(by omega);obtain⟨tb,tg,D,rfl,p1,be⟩:=HCl.o j qj;have ae9:∀{g o:Nat} {u:Value},w4.cell? (aD g o)=some u->wr.cell? (aD g o)=some u:=λhc=>dw (aa.ah (λ_=>False) ew) (λh=>h) hc;have T:=ae9 p1;have R:wr.cell? (aD d.heap.size 2)=some (iV (y.blocks:Int)):=ae9 (bK HUx.o);have Iv:=be.agree (ew.block tg be.lt);have vB:=List.drop_eq_getElem_cons qj;rw [vB,tt] at bV;have Fz:=Ij (some (aD tg 0)) (rs[j]).length D rs[j] wr.drew (Iv.src.later (ai (bi _ _))) (WJ.o _ (List.getElem_mem qj)).1 (WJ.o _ (List.getElem_mem qj)).2 (by have:=Iv.le;simpa [bs] using this) (by have:=Iv.max;unfold maxLen at this;omega) y.blocks hyb;cases Jd:gG y.blocks rs[j] with
      |none=>
       rw [Jd] at bV Fz;have Tw:Calls prog 123 #[.slice (some (aD tg 0)) (rs[j]).length D,iV (y.blocks:Int)] wr.drew λe w'=>e= .returned (.tuple #[.slice none 0 0, .bool false])/\bW wr w':=Fz.mono (by
        rintro e w' ⟨ho,hb⟩;rcases ho with ⟨_,rfl⟩|⟨cs,v',h0,_⟩
        .exact⟨rfl,(ai (bi _ _)).trans hb⟩
        .cases h0)
       obtain⟨WY,O1⟩:=bU Tw bV;clear Fz Tw nE ew Py p1 be Iv bV;go_wp2_with fail;go_region_held3 (λw'=>w'.cell? (aD tb j)=some (.slice (some (aD tg 0)) (rs[j]).length D)/\w'.cell? (aD d.heap.size 2)=some (iV (y.blocks:Int)))
        (first|exact⟨T,R⟩|exact VL)
          ((go_at_call 123;refine WY.o.mono ?_;rintro e w5 ⟨rfl,fa⟩;have VL:w5.cell? (aD tb j)=some (.slice (some (aD tg 0)) (rs[j]).length D)/\w5.cell? (aD d.heap.size 2)=some (iV (y.blocks:Int)):=⟨dw (aa.ah (λ_=>False) fa) (λh=>h) T,dw (aa.ah (λ_=>False) fa) (λh=>h) R⟩))
       have jr:=yh (mm.o.trans (fa.mono Aj));clear VL fa;go_wp2;go_ret2;have Ba:=jr.o;exact eI.fail (F7:=F) MU (.inr ⟨Ll.o,HF.o, .inr ⟨by rw [<-a.o];exact N.o,rs,hd,by rw [<-a.o];exact A.o, .inl ⟨by rw [<-a.o];exact O1.o,rfl,by rw [<-a.o]⟩⟩⟩) (by decide) (HD4.o.later Ba) (λ_ h=> .inl h) (SC.o.trans (aa.ah (λ_=>False) Ba) (λ_ h=>h.elim))
      |some cs=>
       rw [Jd] at bV Fz;have yB:=OZ Jd;have hck:=oV Jd;have Tw:Calls prog 123 #[.slice (some (aD tg 0)) (rs[j]).length D,iV (y.blocks:Int)] wr.drew λe w'=>∃v',e= .returned (.tuple #[v', .bool true])/\Pn w' (λj=>wr.heap.size<=j) wr.heap.size v' cs/\bW wr w':=Fz.mono (by
        rintro e w' ⟨ho,hb⟩;rcases ho with ⟨h0,_⟩|⟨cs',v',h0,rfl,hp⟩
        .cases h0
        .cases h0;exact⟨v',rfl,hp,(ai (bi _ _)).trans hb⟩)
       obtain⟨WY,O1,HCk⟩:=kI Tw bV hck;clear Fz Tw nE ew Py p1 be Iv bV hck Jd;go_wp2_with fail;go_region_held3 (λw'=>w'.cell? (aD tb j)=some (.slice (some (aD tg 0)) (rs[j]).length D)/\w'.cell? (aD d.heap.size 2)=some (iV (y.blocks:Int)))
        (first|exact⟨T,R⟩|exact VL)
          ((go_at_call 123;refine WY.o.mono ?_;rintro e w5 ⟨v',rfl,SK,fa⟩;have VL:w5.cell? (aD tb j)=some (.slice (some (aD tg 0)) (rs[j]).length D)/\w5.cell? (aD d.heap.size 2)=some (iV (y.blocks:Int)):=⟨dw (aa.ah (λ_=>False) fa) (λh=>h) T,dw (aa.ah (λ_=>False) fa) (λh=>h) R⟩))
       have pR:=fa.size;obtain⟨g2,cq,X,bD,afa,jE⟩:=(Jp.o.later fa).cat SK (λi (Q:wr.heap.size<=i)=>(j4 Aj Q:w4.heap.size<=i)) (by omega) (by omega) (by omega);have nI:=(mm.o.trans (fa.mono Aj)).trans (jE.below (λi Q=>Jp.o.lo i Q) (by omega));obtain⟨l,nN⟩:=bU (aH afa nI) bD;clear VL fa SK bD afa jE nI;go_wp2_with (at_builtin;refine br rfl _ _ 127 rfl u11 v' _ rfl rfl nN.o ?_);go_roundw;case rel=>exact⟨j+1,ps ++ cs,by omega,by go_num,by rw [qh];exact O1.o,λx z=>(List.mem_append.1 z).elim (HPk.o x) (HCk.o x),by rw [ed];omega,l.o⟩
       case measure=>simp [intOf];omega
     .have qj':¬(j:Int)<(rs.length:Int):=(by omega);obtain rfl:j=rs.length:=(by omega);rw [List.drop_length] at bV;have uW:iH y.blocks [] rs=some (CM.bT [] ps):=bV;obtain⟨Ba,kv,BQ,W9⟩:=cO ew (HD4.o.later ew) (HL4.o.later ew) (SC.o.trans (aa.ah (λ_=>False) ew) (λ_ h=>h.elim));have Iw:=(ew.block d.heap.size (by omega)).trans HUx.o;have aq8:=HL4.o.lt;have O7:¬F kl:=λhF=>by have:=MU _ hF;omega
      have aa3:(bA S s 1 (y.log:Int)).2.puts= []:=by
       have:=N.o;rw [show bA S s 1 (y.log:Int)=S.take.fl s from M.o.2.2] at this⊢;exact jn this
      have aa4:(bA S s 1 (y.log:Int)).2.fL:=by
       rw [show bA S s 1 (y.log:Int)=S.take.fl s from M.o.2.2];exact Fy.o.take.fl s
      have aa5:∀i,i<s->(bA S s 1 (y.log:Int)).2.now i=S.now i:=λi Q=>by
       rw [show bA S s 1 (y.log:Int)=S.take.fl s from M.o.2.2];exact eY (S:=S.take) ⟨K.o.ok.len,K.o.ok.lo,K.o.ok.hi,K.o.ok.puts,K.o.ok.fuse⟩ Q
      clear nE ew Py bV;have afb:w2.heap.size<=kl:=(by omega);have afc:(fh S 1 y.log hd).f+2+(fh S 1 y.log hd).n<=y.home:=(by show 1+2+y.log<=y.home;rw [a.o];exact Nat.le_of_eq (by show 1+2+u32 (S.now 0) 12=3+u32 (S.now 0) 12;omega));have JL:S.num 1<((fh S 1 y.log hd).top+1)*4294967296:=EL M.o.1;obtain⟨m,YD⟩:∃m,m=(bA S s 1 (y.log:Int)).2:=⟨_,rfl⟩;rw [<-YD] at kv aa3 aa4 aa5;have o7:=yh YD;have Tx:m.num 1<((fh S 1 y.log hd).top+1)*4294967296:=(by rw [vN (S:=S) (S':=m) (aa5 1 (by omega)) (aa5 2 (by omega))];exact JL);have hp0:m.puts.length=0:=(by rw [aa3];rfl);have Ev:∀q∈CM.bT [] ps,y.home+q.1<s/\q.2.length=512:=λq H=>⟨by have:=HPk.o q (eS H);have:=I.1;omega,(Jp.o.pl.len q (eS H)).1⟩;have UM:=λq H=>(Jp.o.pl.len q (eS H)).2;have hyh:3<=y.home:=(by rw [a.o];show 3<=3+u32 (S.now 0) 12;omega);clear YD aa3 HCl;by_cases q0:rs= []
      .have dl:¬(0:Int)<(rs.length:Int):=(by rw [q0];decide);have Ji:Yh (eu m s y (CM.bT [] ps) rs=(0,m)):=yh (by unfold eu;rw [aG q0]);clear q0;have bw:=Ao kv BQ G.o O7 aa4 (by omega) (λ_ _=>Tx);have sb:=tk (S:=m) G.o;have tu:=AB (L:=fh S 1 y.log hd) (S:=m) (s:=s) (kv).ok rfl (by show 1+1<s;omega) Tx G.o.top;have Ix:Yh (j1 S s ((fh S 1 y.log hd).start m s).1 ((fh S 1 y.log hd).start m s).2.1):=yh (.inr ⟨Ll.o,HF.o, .inr ⟨by rw [<-a.o];exact N.o,rs,hd,by rw [<-a.o];exact A.o, .inr ⟨CM.bT [] ps,by rw [<-a.o];exact uW, .inr ⟨by rw [<-a.o,<-o7.o,Ji.o],by rw [<-a.o,<-o7.o,Ji.o],by rw [<-a.o,<-o7.o,Ji.o]⟩⟩⟩⟩);have Ty:Yh (tp S s ((fh S 1 y.log hd).start m s).2.2):=yh ⟨rs,hd,CM.bT [] ps,by rw [<-a.o];exact A.o,by rw [<-a.o];exact uW,by rw [<-a.o,<-o7.o,Ji.o]⟩;have J:=yh sb;by_cases C:((fh S 1 y.log hd).start m s).1=0
       .have ds:(((fh S 1 y.log hd).start m s).1 != 0)=false:=(by rw [C];rfl);have Xa:=yh C;clear C tu sb;go_wp2_with fail;refine pr bw λE oR Da jW=>?_;have hz8:=jW.size;have vT:=(jW.block d.heap.size (by omega) (λz=>by rcases z with z|z;(have:=MU _ z;omega);omega)).trans Iw;have l0:E.cell? (aD d.heap.size 0)=some (iV (y.log:Int)):=aM vT;have l1:E.cell? (aD d.heap.size 1)=some (iV (y.home:Int)):=bG vT;have l2:E.cell? (aD d.heap.size 2)=some (iV (y.blocks:Int)):=bK vT;have l3:E.cell? (aD d.heap.size 3)=some (iV (y.nodes:Int)):=fQ vT;have l4:E.cell? (aD d.heap.size 4)=some (iV (y.data:Int)):=gH vT;have l:=yh (aH oR (aH Da jW));clear bw oR Da jW vT;go_wp2;go_ret2;have mi:=Ix.o;rw [Xa.o] at mi;exact eI.done a.o MU mi Ty.o (λ_ h=> .inl h) W9 afb O7 (by omega) l.o.1 l.o.2.1 l.o.2.2 (J.o Xa.o).1 (J.o Xa.o).2 I.1 (by rw [MS];exact afc)
       .have ds:(((fh S 1 y.log hd).start m s).1 != 0)=true:=(by rw [gB];exact C);obtain⟨Xa,h33⟩:=bU C (tu.resolve_left C);clear C tu sb;go_wp2_with fail;refine pr bw λE oR Da jW=>?_;have hz8:=jW.size;have l:=yh (aH oR jW);clear bw oR Da jW;go_wp2;go_ret2;have mi:=Ix.o;rw [h33.out] at mi;exact eI.fail (F7:=more F wr E) MU mi (by decide) l.o.1 (λj b=>by rcases b with b|b;exact .inl b;exact .inr ⟨by omega,b.2⟩) (W9.trans l.o.2 (λj b=>by rcases b with b|b;exact .inl b;exact .inr (by omega)))
      .have dl:(0:Int)<(rs.length:Int):=(by have:=List.length_pos_iff.2 q0;omega);have Xb:=Ak (y:=y) kv Jp.o.pl.pv (λg hg hF=>by have:=MU _ hF;rcases hg with hg|hg;omega;have:=Jp.o.lo g hg;omega) I.1 HPk.o (by omega) (by omega);obtain⟨b1,b2,b3,b4,b5⟩:=eD (h0:=y.home) (ms:=CM.bT [] ps) kv.ok Ev;have hYp:=eF m s y.home (CM.bT [] ps);have hYb:=ku aa4 s y.home UM;have hol:(CM.bT [] ps).length<=2048:=by
        rcases CM.length_le (n:=2048) (mL ps) (λq H=>by have:=(Ev q H).1;omega) 0 (λ_ _=>dV _) with h1|h1
        .omega
        .rw [h1];simp
       have kZ:eu m s y (CM.bT [] ps) rs=if (aE m s y.home (CM.bT [] ps)).1≠0 then aE m s y.home (CM.bT [] ps) else (aE m s y.home (CM.bT [] ps)).2.fl s:=(by unfold eu;rw [aB q0]);have l0:wr.cell? (aD d.heap.size 0)=some (iV (y.log:Int)):=aM Iw;have l1:wr.cell? (aD d.heap.size 1)=some (iV (y.home:Int)):=bG Iw;have l2:wr.cell? (aD d.heap.size 2)=some (iV (y.blocks:Int)):=bK Iw;have l3:wr.cell? (aD d.heap.size 3)=some (iV (y.nodes:Int)):=fQ Iw;have l4:wr.cell? (aD d.heap.size 4)=some (iV (y.data:Int)):=gH Iw;generalize hY9:aE m s y.home (CM.bT [] ps)=Y at*;clear hY9 q0;by_cases qy:Y.1=0
       .have dy:(Y.1 == 0)=true:=(by rw [qy];rfl);rw [aB (λh=>h qy)] at kZ;clear qy;go_wp2_with fail;refine fR Xb λX pI jE=>?_;have jX:=fC pI (by omega);have RF:=jE.size;have akf:=(jE.block d.heap.size (by omega) (λz=>by have:=MU _ z;omega)).trans Iw;have MM:=BQ.aw jE O7;have AG:=W9.trans jE (λ_ h=> .inl h);have Xc:=λi (Q:i<s)=>eY b3 Q;have hZb:=hYb.fl s;have hZp:=me Y.2 s;have HF6:=yh (λ(j:Nat) (b:more F wr X j)=>(b.imp id (λh=>⟨by omega,h.2⟩):more F w2 X j));generalize hZ9:Y.2.fl s=Z at*;have HZ9:=yh hZ9;clear Xb pI jE hZ9 l0 l1 l2 l3 l4;by_cases qz:Z.1=0
        .have dz:(Z.1 == 0)=true:=(by rw [qz];rfl);have Ji:Yh (eu m s y (CM.bT [] ps) rs=(0,Z.2)):=yh (by rw [kZ];exact Prod.ext qz rfl);clear qz kZ;go_wp2_with fail;refine fR jX λw7 nP gQ=>?_;have hz7:=gQ.size;have Tz:¬more F wr X kl:=λh=>h.elim O7 (λh=>by omega);have C9:=MM.aw gQ Tz;have akg:=(gQ.block d.heap.size (by omega) (λz=>by rcases z with z|z;(have:=MU _ z;omega);omega)).trans akf;have B3:=AG.trans gQ (λj b=>b.imp id (λh=>by omega));have HF7:=yh (λ(j:Nat) (b:more F wr X j)=>((HF6.o j b).imp id (λh=>⟨h.1,by omega⟩):more F w2 w7 j));have YE:Z.2.num 1<((fh S 1 y.log hd).top+1)*4294967296:=by
          rw [vN (S:=m) (S':=Z.2) ((Xc 1 (by omega)).trans (b5 1 (λq H e=>by omega))) ((Xc 2 (by omega)).trans (b5 2 (λq H e=>by omega)))];exact Tx
         clear jX gQ b1 b2 b3 b4 b5 Ev UM Xc kv BQ Iw;have bw:=Ao nP C9 G.o Tz hZb (by omega) (λ_ _=>YE);have sb:=tk (S:=Z.2) G.o;have tu:=AB (L:=fh S 1 y.log hd) (S:=Z.2) (s:=s) (nP).ok rfl (by show 1+1<s;omega) YE G.o.top;have Ix:Yh (j1 S s ((fh S 1 y.log hd).start Z.2 s).1 ((fh S 1 y.log hd).start Z.2 s).2.1):=yh (.inr ⟨Ll.o,HF.o, .inr ⟨by rw [<-a.o];exact N.o,rs,hd,by rw [<-a.o];exact A.o, .inr ⟨CM.bT [] ps,by rw [<-a.o];exact uW, .inr ⟨by rw [<-a.o,<-o7.o,Ji.o],by rw [<-a.o,<-o7.o,Ji.o],by rw [<-a.o,<-o7.o,Ji.o]⟩⟩⟩⟩);have Ty:Yh (tp S s ((fh S 1 y.log hd).start Z.2 s).2.2):=yh ⟨rs,hd,CM.bT [] ps,by rw [<-a.o];exact A.o,by rw [<-a.o];exact uW,by rw [<-a.o,<-o7.o,Ji.o]⟩;have J:=yh sb;by_cases C:((fh S 1 y.log hd).start Z.2 s).1=0
         .have ds:(((fh S 1 y.log hd).start Z.2 s).1 != 0)=false:=(by rw [C];rfl);have Xa:=yh C;clear C tu sb;go_wp2_with fail;refine pr bw λE oR Da jW=>?_;have hz8:=jW.size;have vT:=(jW.block d.heap.size (by omega) (λz=>by rcases z with z|z;(rcases z with z|z;(have:=MU _ z;omega);omega);omega)).trans akg;have l0:E.cell? (aD d.heap.size 0)=some (iV (y.log:Int)):=aM vT;have l1:E.cell? (aD d.heap.size 1)=some (iV (y.home:Int)):=bG vT;have l2:E.cell? (aD d.heap.size 2)=some (iV (y.blocks:Int)):=bK vT;have l3:E.cell? (aD d.heap.size 3)=some (iV (y.nodes:Int)):=fQ vT;have l4:E.cell? (aD d.heap.size 4)=some (iV (y.data:Int)):=gH vT;have l:=yh (aH oR (aH Da jW));clear bw oR Da jW vT;go_wp2;go_ret2;have mi:=Ix.o;rw [Xa.o] at mi;exact eI.done a.o MU mi Ty.o HF7.o B3 afb Tz (by omega) l.o.1 l.o.2.1 l.o.2.2 (J.o Xa.o).1 (J.o Xa.o).2 I.1 (by rw [MS];exact afc)
         .have ds:(((fh S 1 y.log hd).start Z.2 s).1 != 0)=true:=(by rw [gB];exact C);obtain⟨Xa,h33⟩:=bU C (tu.resolve_left C);clear C tu sb;go_wp2_with fail;refine pr bw λE oR Da jW=>?_;have hz8:=jW.size;have l:=yh (aH oR jW);clear bw oR Da jW;go_wp2;go_ret2;have mi:=Ix.o;rw [h33.out] at mi;exact eI.fail (F7:=more (more F wr X) w7 E) MU mi (by decide) l.o.1 (λj b=>by rcases b with b|b;exact(HF7.o j b).imp id (λh=>⟨h.1,by omega⟩);exact .inr ⟨by omega,b.2⟩) (B3.trans l.o.2 (λj b=>by rcases b with b|b;exact(HF7.o j b).imp id (λh=>h.1);exact .inr (by omega)))
        .have dz:(Z.1 == 0)=false:=(by rw [fJ];exact qz);have dn:(Z.1 != 0)=true:=(by rw [gB];exact qz);have lB:Z.1=3:=by
          have h9:(Y.2.fl s).1≠0:=(by rw [HZ9.o];exact qz);have:=(ly h9).2.2;rwa [HZ9.o] at this
         have HSO:Yh (j1 S s 3 Z.2):=yh (.inr ⟨Ll.o,HF.o, .inr ⟨by rw [<-a.o];exact N.o,rs,hd,by rw [<-a.o];exact A.o, .inr ⟨CM.bT [] ps,by rw [<-a.o];exact uW, .inl ⟨by rw [<-a.o,<-o7.o,kZ];exact lB,by decide,by rw [<-a.o,<-o7.o,kZ]⟩⟩⟩⟩);clear qz lB kZ;go_wp2_with fail;refine fR jX λw7 nP gQ=>?_;have hz7:=gQ.size;have B3:=AG.trans gQ (λj b=>b.imp id (λh=>by omega));have l:=yh (aH nP B3);clear jX nP gQ B3 b1 b2 b3 b4 b5 Ev UM Xc;go_wp2;go_ret2;exact eI.fail (F7:=more F wr X) MU HSO.o (by decide) l.o.1 (λj b=>(HF6.o j b).imp id (λh=>⟨h.1,by omega⟩)) l.o.2
       .have dy:(Y.1 == 0)=false:=(by rw [fJ];exact qy);have dn:(Y.1 != 0)=true:=(by rw [gB];exact qy);rw [aG qy] at kZ;have hy3:=b1.resolve_left qy;have HSO:Yh (j1 S s 3 Y.2):=yh (.inr ⟨Ll.o,HF.o, .inr ⟨by rw [<-a.o];exact N.o,rs,hd,by rw [<-a.o];exact A.o, .inr ⟨CM.bT [] ps,by rw [<-a.o];exact uW, .inl ⟨by rw [<-a.o,<-o7.o,kZ];exact hy3,by decide,by rw [<-a.o,<-o7.o,kZ]⟩⟩⟩⟩);clear qy hy3 kZ;go_wp2_with fail;refine fR Xb λX pI jE=>?_;have RF:=jE.size;have AG:=W9.trans jE (λ_ h=> .inl h);have l:=yh (aH pI AG);clear Xb pI jE AG b1 b2 b3 b4 b5 Ev UM l0 l1 l2 l3 l4;go_wp2;go_ret2;exact eI.fail (F7:=more F wr X) MU HSO.o (by decide) l.o.1 (λj b=>b.imp id (λh=>⟨by omega,h.2⟩)) l.o.2
   .rw [aG q] at uM;subst uM;have dq:((bA S s 1 (y.log:Int)).1 != 0)=true:=(by rw [gB];exact q);obtain⟨l,N⟩:=bU (aH P EQ) q;clear P dW EQ q aa0;generalize hLO:bA S s 1 (y.log:Int)=LO at*;have HLO:=yh hLO;clear hLO;go_wp2;go_ret2;refine⟨LO.1,LO.2, .inr ⟨Ll.o,HF.o, .inl ⟨by rw [<-a.o];exact congrArg Prod.fst HLO.o,N.o,by rw [<-a.o];exact(congrArg Prod.snd HLO.o).symm⟩⟩,l.o.2, .inl ⟨N.o,rfl,l.o.1.mono (λ_ h=> .inl h) (λk hk=>hk.elim (λh=>l.o.1.lt k h) (λh=>h.2))⟩⟩
  .have WO:(((u32 (S.now 0) 8:Nat):Int) != ((s:Nat):Int))=true:=(by rw [gB];omega);have tj:Yh (¬mM (S.now 0) s):=yh (λh=>oH h.2);go_quiet (first|(go_at_call 11;refine Calls.quiet_of_same (nT _)));clear c0 nT;go_wp2;go_ret2;exact eI.bad K.o HF.o tj.o (HW.o.2.1.trans (below_drewN (bi _ _) _))
 .have tj:Yh (¬mM (S.now 0) s):=yh (λh=>h0 (HSi.o.1 h.1));obtain⟨W,O⟩:=bQ (W0.alloc (.cells #[.int .i64 0, .int .i64 0, .int .i64 0] 39));have UQ:bW w2 W:=by rw [O];exact bF.alloc bF.size _
  have C3:=yh UQ;clear h0 bF;go_wp2_with fail;rw [<-O];clear O UQ;go_quiet (fail);go_wp2;go_ret2;exact eI.bad K.o HF.o tj.o (C3.o.trans (below_drewN (bi _ _) _))
end
end
section
section
variable {w w' U wx wy wz:World} {F:Nat->Prop} {r s:Nat} {S S':DS}
def rt (xQ:aa F U wx) (b:bW wx wy) (hd:aC wz (more (more F U wx) wy wz) r s S') (c:aa (more F U wx) wy wz):aC wz (more F U wz) r s S'/\aa F U wz:=by
 obtain⟨h0,d,e⟩:=kH xQ.size b.size c.size;refine⟨hd.mono (λj a=>?_) (λj a=>?_),(xQ.trans (aa.ah (λ_=>False) b) (λ_ h=>h.elim)).trans c (λj a=>a.imp id (λh=>h.1))⟩
 .rcases a with (a|a)|a
  .exact .inl a
  .exact .inr ⟨a.1,by omega⟩
  .exact .inr ⟨by omega,a.2⟩
 .exact a.elim (λh=>hd.lt j (.inl (.inl h))) (λh=>h.2)
def MV (xQ:aa F U wx) (hd:aC wy (more F U wx) r s S') (b:aa (more F U wx) wx wy):aC wy (more F U wy) r s S'/\aa F U wy:=by
 have c:=b.size;refine⟨hd.mono (λj a=>a.imp id (λh=>⟨h.1,by omega⟩)) (λj a=>a.elim (λh=>hd.lt j (.inl h)) (λh=>h.2)),xQ.trans b (λj a=>a.imp id (λh=>h.1))⟩
def tw (w:World) (F:Nat->Prop) (r s:Nat) (R:Int×DS) (e:Ending) (w':World):Prop:=e= .returned (iV R.1)/\aC w' (more F w w') r s R.2/\aa F w w'
def tw.of {R:Int×DS} (a:bW w U) (h:aC w' (more F U w') r s R.2/\aa F U w'):tw w F r s R (.returned (iV R.1)) w':=⟨rfl,ut a h.1 h.2⟩
def tw.same (hd:aC w F r s S) (a:bW w w'):tw w F r s (x,S) (.returned (iV x)) w':=
   ⟨rfl,(hd.later a).mono (λ_ h=> .inl h) (λk c=>c.elim (λb=>(hd.later a).lt k b) (λh=>h.2)),aa.ah _ a⟩
def O8 {m:Nat} (h:n<=m) (c:(aE S s a (fb n)).1≠0):aE S s a (fb m)=aE S s a (fb n):=by
 obtain⟨R,b⟩:=CZ h;rw [b,fq,aG c]
def XF (c:S.fuse≠0) (d:1<=s):mg S s=(S.take.wr s 0 512 (zs 512)).2.fl s/\(S.take.wr s 0 512 (zs 512)).1=0:=by
 have h0:(S.take.wr s ((0+0:Nat):Int) 512 (zs 512)).1=0:=by rw [o8 (S:=S.take) (k:=0+0) c (by omega)]
 have b:aE S.take s 0 (fb 1)=S.take.wr s ((0+0:Nat):Int) 512 (zs 512):=by
  have:=qB (S:=S.take) (s:=s) (h0:=0) (a:= []) rfl (0,zs 512);exact this
 refine⟨?_,h0⟩;unfold mg eC;rw [b,aB (λh=>h h0)];rfl
def ET (hd:aC w F r s S) (dC:S.fL) (a b c:Int) (aU:S.puts.length+6000<=4000000000000):
  Calls prog 24 #[pQ r, .agg #[iV a,iV b,iV c]] w λe w'=>tw w F r s (bY S s a b c) e w':=by
 obtain⟨R,j⟩:=bQ (bY S s a b c);rw [<-j];unfold bY at j;obtain⟨W,E⟩:=bQ (w.alloc (.cells #[.int .i64 a, .int .i64 b, .int .i64 c] 39));have EU:bW w W:=by rw [E];exact(bi w.heap.size w).alloc (bS _) _
 have B4:W.heap[w.heap.size]? =some (.cells #[.int .i64 a, .int .i64 b, .int .i64 c] 39 (0,0)):=by rw [E];exact heap_alloc_new _ _
 have Ie:W.heap.size=w.heap.size+1:=by rw [E,World.size_alloc]
 obtain⟨yD,lC,M,X,C3,MJ⟩:=jF hd.ok.lo hd.ok.hi (kq (hd.later EU)) (yh hd) (yh EU) (yh B4);have Fy:=yh dC;have rP:=hd.lt;clear hd dC EU B4;by_cases H:S.fuse=0
 .rw [show (S.fuse == 0)=true by simp [H]] at M;rw [aG H] at j;have d:=yh j;clear j H;go_in;go_wp2_with fail;rw [<-E];clear E;refine bN M λw1 bL=>?_;subst bL;clear M;go_wp2;go_ret;rw [d.o];exact tw.same X.o C3.o
 .rw [show (S.fuse == 0)=false by simp [H]] at M;rw [aB H] at j;have HF:=yh H;clear H;have x0:W.cell? (aD w.heap.size 0)=some (iV a):=aM MJ.o;have x1:W.cell? (aD w.heap.size 1)=some (iV b):=bG MJ.o;have x2:W.cell? (aD w.heap.size 2)=some (iV c):=bK MJ.o;have pC:=vS a b c W;go_in;go_wp2_with fail;rw [<-E];clear E;refine bN M λw1 bL=>?_;subst bL;clear M;go_wp2_with fail;refine pC.mono ?_;rintro e V ⟨v,x,rfl,UN,MT⟩;have YC:=MT.size;clear pC;have bd:=C3.o.trans (MT.mono (by omega));rcases UN with ⟨J,rfl,rfl⟩|⟨J,rfl,rfl⟩
  .obtain⟨m,t⟩:=bQ (V.alloc (.cells #[.int .i64 b, .int .i64 (3+b), .int .i64 (a-(3+b)), .int .i64 c, .int .i64 (2+c / 4)] 86));have US:bW w m:=(by rw [t];exact bd.alloc (by omega) _);have y0:m.cell? (aD w.heap.size 0)=some (iV a):=by
    have e1:bW w1 m:=(by rw [t];exact MT.alloc YC _);exact iF e1 (by omega) x0
   have y1:m.cell? (aD w.heap.size 1)=some (iV b):=by
    have e1:bW w1 m:=(by rw [t];exact MT.alloc YC _);exact iF e1 (by omega) x1
   have y2:m.cell? (aD w.heap.size 2)=some (iV c):=by
    have e1:bW w1 m:=(by rw [t];exact MT.alloc YC _);exact iF e1 (by omega) x2
   go_upto_region 4 with fail
   rw [<-t];clear t MT bd x0 x1 x2;have nT:=λk=>mE ((X.o.later US).later (below_drewN (bi _ _) k));have A:=yh US;clear US;by_cases N:a=(s:Int)
   .have EV:(a != (s:Int))=false:=(by rw [N];simp);rw [aG ⟨J,N⟩] at j;go_quiet (first|(go_at_call 11;refine Calls.quiet_of_same (nT _)));rename_i nq _;have hq:bW m (m.drewN nq):=below_drewN (bi _ _) nq;have l:=yh (A.o.trans (hq.mono A.o.size));have z0:=dw (aa.ah (λ_=>False) hq) (λh=>h) y0;have z1:=dw (aa.ah (λ_=>False) hq) (λh=>h) y1;have z2:=dw (aa.ah (λ_=>False) hq) (λh=>h) y2;clear A nT hq y0 y1 y2;generalize m.drewN nq=U at*;obtain⟨an,C,cn,hae,rfl,rfl⟩:=MI J;rw [Int.toNat_natCast,Int.toNat_natCast] at j;have K:=J;rw [N] at z0 K;obtain⟨d,HG⟩:=bU j K;clear j J K N EV hae;go_wp2_with fail;refine(zE (X.o.later l.o)).mono ?_;rintro e w3 ⟨rfl,G,aZ⟩;have hze:=rg w3;go_wp2_with fail;refine fR hze λw4 wR fw=>?_;have d3:aC w3 (more F U w3) r s S.take:=G.mono (λ_ h=> .inl h) (λk hk=>hk.elim (λh=>G.lt k h) (λh=>h.2));have htp:S.take.puts.length=S.puts.length:=rfl;obtain⟨yn,Ww,I,lS,jV⟩:=eK (iE (d3.later fw) 0 (some (aD w3.heap.size 0)) 512 512 (zs 512) (by have:=wR.src;rw [List.length_replicate] at this;exact this) (by omega)) (ji S.take s 0 512 (zs 512)) (XF HF.o yD) (yh aZ) (yh fw);clear hze wR fw d3 G aZ;go_wp2_with fail;refine fR yn λw5 jH dX=>?_;obtain⟨d5,k5⟩:=rt lS.o jV.o jH dX;have jX:=fC d5 (by omega);rw [<-I.1] at jX;have YF:=(Fy.o.take.wr s 0 512 (Gp 512)).fl s;have hfp:=me (S.take.wr s 0 512 (zs 512)).2 s;rw [<-I.1] at YF hfp;clear yn jH dX I;generalize (S.take.wr s 0 512 (zs 512))=Q1 at*;go_wp2_with fail;refine fR jX λw6 pI jE=>?_;obtain⟨d6,k6⟩:=MV k5 pI jE;obtain⟨Xd,OF,Z,HZ2,Uz⟩:=eK (yh (aH d6 k6)) (yh z0) (yh z1) (yh z2) d.o;unfold lL mh jT ni at Uz;clear jX pI jE d5 k5 d6 k6 z0 z1 z2 d;generalize mg S s=g at*;have KC:¬F w.heap.size:=λh=>by have:=rP _ h;omega
    have Dj:∀{wx:World} {o:Nat} {u:Value},aa F U wx->U.cell? (aD w.heap.size o)=some u->wx.cell? (aD w.heap.size o)=some u:=λhk hc=>dw hk KC hc;by_cases O:g.1=0
    .rw [aB (λh=>h O)] at Uz;obtain⟨HP0,zv⟩:=bU O Uz;clear Uz O;go_wp2;go_loopw [7,8] (λf i wr=>∃n:Nat,n<=s-1/\i=iV (1+(n:Int))/\f=iV (aE g.2 s 1 (fb n)).1/\aC wr (more F U wr) r s (aE g.2 s 1 (fb n)).2/\aa F U wr) (λ_ i _=>s-(intOf i).toNat);case atStart=>exact⟨0,dV _,rfl,by rw [HP0.o];rfl,Xd.o.1,Xd.o.2⟩
     case round=>
      obtain⟨n,hn,rfl,rfl,kv,Bj⟩:=hrel;have z0r:=Dj Bj OF.o;have hsp:=eF g.2 s 1 (fb n);rw [Ai] at hsp;by_cases D:(aE g.2 s 1 (fb n)).1=0
      .have de:((aE g.2 s 1 (fb n)).1 == 0)=true:=(by rw [D];rfl);by_cases qn:1+n<s
       .have qn':1+(n:Int)<(s:Int):=(by omega);have gu:=qB D (n,zs 512);rw [<-CY,show ((1+n:Nat):Int)=1+(n:Int) by omega] at gu;obtain⟨sW,C1⟩:=bU kv Bj;clear kv Bj;go_wp2_with fail;refine(rg wr).mono ?_;rintro e w7 ⟨rfl,hr7,xB⟩;have yn:=iE (sW.o.later xB) (1+(n:Int)) (some (aD wr.heap.size 0)) 512 512 (zs 512) (by have:=hr7.src;rw [List.length_replicate] at this;exact this) (by omega);rw [<-gu] at yn;have FA:=yh xB;clear hr7 xB gu;go_wp2_with fail;refine fR yn λw8 oR jW=>?_;have y:=yh (rt C1.o FA.o oR jW);clear yn oR jW;go_wp2;go_roundw;case rel=>exact⟨n+1,by omega,by first|rfl|go_num|(congr 1;omega),rfl,y.o⟩
        case measure=>simp [intOf];omega
       .have qn':¬1+(n:Int)<(s:Int):=(by omega);obtain rfl:n=s-1:=(by omega);have hsw:eC g.2 s 1 (s-1)=(aE g.2 s 1 (fb (s-1))).2.fl s:=(by unfold eC;rw [aB (λh=>h D)]);have Gx:=zv.o;have jX:=fC kv (by omega);rw [<-hsw] at jX;have akk:=kw YF s 1 (s-1);have arf:=l9 g.2 s 1 (s-1);have C1:=yh Bj;clear hsw kv Bj zv;generalize eC g.2 s 1 (s-1)=P2 at*;by_cases L:P2.1=0
        .have d2:(P2.1 == 0)=true:=(by rw [L];rfl);rw [aB (λh=>h L)] at Gx;clear L;go_wp2_with fail;refine fR jX λw7 nP gQ=>?_;obtain⟨d7,k7⟩:=MV C1.o nP gQ;have z17:=Dj k7 Z.o;have z:=Hg d7 akk 1 (C:Int) (by omega);have arh:=ur P2.2 s 1 (C:Int) (by have:=HG.o.1.2;omega);have Y:=yh k7;clear jX nP gQ d7 k7 z0r;generalize cD P2.2 s 1 (C:Int)=P3 at*;by_cases P:P3.1=0
         .have d3:(P3.1 == 0)=true:=(by rw [P];rfl);rw [aB (λh=>h P)] at Gx;clear P;go_wp2_with fail;refine fR z λw8 oR jW=>?_;obtain⟨d8,k8⟩:=rt Y.o (bi _ _) oR jW;have z18:=Dj k8 Z.o;have z08:=Dj k8 OF.o;have z28:=Dj k8 HZ2.o;have aa7:=yh (aH d8 k8);clear z oR jW d8 k8 z17;go_wp2_with fail;refine(uK s C cn w8 HG.o).mono ?_;rintro e w9 ⟨v9,rfl,hm9⟩;obtain⟨g9,c9,rfl,hg9,Un,Ba⟩:=hm9.out (kz s C cn);have yn:=iE (aa7.o.1.later Ba) 0 (some (aD g9 0)) 512 c9 (gW s C cn) (by have:=Un.src;rwa [kz] at this) (by omega);have ari:=ji P3.2 s 0 512 (gW s C cn);have T:=yh Ba;clear hm9 Un Ba;generalize P3.2.wr s 0 512 (gW s C cn)=P4 at*;by_cases Q:P4.1=0
          .have d4:(P4.1 == 0)=true:=(by rw [Q];rfl);rw [aB (λh=>h Q)] at Gx;have d:=yh Gx;clear Q Gx;go_wp2_with fail;refine fR yn λwa p q=>?_;obtain⟨da,ka⟩:=rt aa7.o.2 T.o p q;have afg:=fC da (by omega);have HKa:=yh ka;clear yn p q da ka;go_wp2_with fail;refine fR afg λwb hdb ph=>?_;have y:=yh (MV HKa.o hdb ph);clear afg hdb ph;go_wp2;go_ret;rw [d.o];exact tw.of l.o y.o
          .have d4:(P4.1 == 0)=false:=(by rw [fJ];exact Q);rw [aG Q] at Gx;have d:=yh Gx;clear Q Gx;go_wp2_with fail;refine fR yn λwa p q=>?_;have y:=yh (rt aa7.o.2 T.o p q);clear yn p q;go_wp2;go_ret;rw [d.o];exact tw.of l.o y.o
         .have d3:(P3.1 == 0)=false:=(by rw [fJ];exact P);rw [aG P] at Gx;have d:=yh Gx;clear P Gx;go_wp2_with fail;refine fR z λw8 oR jW=>?_;have y:=yh (rt Y.o (bi _ _) oR jW);clear z oR jW;go_wp2;go_ret;rw [d.o];exact tw.of l.o y.o
        .have d2:(P2.1 == 0)=false:=(by rw [fJ];exact L);rw [aG L] at Gx;have d:=yh Gx;clear L Gx;go_wp2_with fail;refine fR jX λw7 nP gQ=>?_;have y:=yh (MV C1.o nP gQ);clear jX nP gQ;go_wp2;go_ret;rw [d.o];exact tw.of l.o y.o
      .have de:((aE g.2 s 1 (fb n)).1 == 0)=false:=(by rw [fJ];exact D);have d:Yh (R=aE g.2 s 1 (fb n)):=yh (by
        have h9:eC g.2 s 1 (s-1)=aE g.2 s 1 (fb n):=(by unfold eC;rw [(O8 hn D),aG D]);rw [zv.o,h9,aG D])
       have sW:=yh (aH kv Bj);clear kv Bj D;by_cases qn:1+(n:Int)<(s:Int);all_goals
        go_wp2;go_ret;rw [d.o];exact tw.of l.o sW.o
    .rw [aG O] at Uz;have d:=yh Uz;have dq:(g.1 == 0)=false:=(by rw [fJ];exact O);have z06:=Dj Xd.o.2 OF.o;clear Uz O;go_wp2;go_loopw [7,8] (λf i wr=>f=iV g.1/\i=iV 1/\wr=w6) (λ_ _ _=>0);case atStart=>exact⟨rfl,rfl,rfl⟩
     case round=>
      obtain⟨rfl,rfl,rfl⟩:=hrel;by_cases L:(1:Int)<(s:Int);all_goals
       go_wp2;go_ret;rw [d.o];exact tw.of l.o Xd.o
   .have EV:(a != (s:Int))=true:=(by rw [gB];exact N);rw [aB (λh=>N h.2)] at j;have d:=yh j;clear j;go_quiet (first|(go_at_call 11;refine Calls.quiet_of_same (nT _)));clear nT y0 y1 y2;go_wp2;go_ret;rw [d.o];exact tw.same X.o (A.o.trans ((below_drewN (bi _ _) _).mono A.o.size))
  .obtain⟨m,t⟩:=bQ (V.alloc (.cells #[.int .i64 0, .int .i64 0, .int .i64 0, .int .i64 0, .int .i64 0] 86));have US:bW w m:=(by rw [t];exact bd.alloc (by omega) _);rw [aB (λh=>J h.1)] at j;obtain⟨d,A⟩:=bU j US
   go_upto_region 4 with fail
   rw [<-t];clear t MT bd x0 x1 x2 j J US;go_quiet (fail);go_wp2;go_ret;rw [d.o];exact tw.same X.o (A.o.trans ((below_drewN (bi _ _) _).mono A.o.size))
end
end
section
section
variable {S S':DS} {s t i:Nat} {ls:List LG} {L:LG} {G:SG}
def V.Inv.idle (h:V.Inv S s ls t) (jc:∀M∈ls,M.life<S.life) (c:S'.Ok s) (qf:S'.fL) (f:S'.puts.length<=6000) (d:S'.fuse≠0->S'.puts.length<=256) (b:S'.life=S.life):V.Inv S' s ls t:=
   ⟨c,qf,f,d,by rw [b];exact h.l0,by rw [b];exact h.lt,λM a=>by rw [b];exact h.ol M a,h.li,λM a e=>by have:=jc M a;omega⟩
def A4 (h:S.Ok s):(S.fl s).2.Ok s/\(S.fl s).2.life=S.life/\((S.fl s).1≠0->(S.fl s).2.fuse=0/\(S.fl s).2.puts.length<=S.puts.length)/\((S.fl s).1=0->(S.fl s).2.puts= []):=
   ⟨si h,fX _ _,λc=>by obtain⟨a,b,_⟩:=ly c;rw [a];exact⟨b,bS _⟩,jn⟩
def qK (h:S.Ok s) (r:a+n<=s):(eC S s a n).2.Ok s/\(eC S s a n).2.life=S.life/\((eC S s a n).1≠0->(eC S s a n).2.fuse=0)/\((eC S s a n).1=0->(eC S s a n).2.puts= []):=by
 obtain⟨o,b,c,e,p⟩:=eD (h0:=a) (ms:=fb n) h (λq d=>by
  unfold fb at d;obtain⟨i,m,rfl⟩:=List.mem_map.1 d;have:=List.mem_range.1 m;exact⟨by show a+i<s;omega,bH 512⟩)
 unfold eC;split
 .rename_i q;exact⟨c,b,e,λh0=>absurd h0 q⟩
 .obtain⟨f,g,j,k⟩:=A4 c;exact⟨f,g.trans b,λl=>(j l).1,k⟩
def sd (h:S.Ok s) (we:0<=S.life) {t:Nat} (bq:S.life<=t) (k:t<=1000000000000000000) (d:S.fuse≠0) (j:S.puts= []) (f n:Int):(cD S s f n).2.Ok s/\(S.life<=(cD S s f n).2.life)/\((cD S s f n).1=0->(cD S s f n).2.puts= []):=by
 unfold cD;split
 .exact⟨h,Int.le_refl _,λ_=>j⟩
 .rename_i e;obtain⟨_,a,b,rfl,rfl,oJ,ar,bd⟩:=fV (Decidable.of_not_not e);simp only [Int.toNat_natCast];have zB:=jz we bq k;have du:S.take.Ok s:=⟨h.len,h.lo,h.hi,h.puts,h.fuse⟩;obtain⟨l,c,p,m⟩:=kS (f:=a) (n:=b) du oJ;have oo:=l.trans zB;split
  .rename_i h0;exact⟨c,by omega,λi=>absurd i h0⟩
  .rename_i h0;obtain⟨o,q⟩:=m (Decidable.of_not_not h0);have fH:=(iU (cN S.take s a b).2 s a 4294967296).trans oo;refine⟨(nW c (by omega) _).1,by omega,λg=>?_⟩;exact(uh (s:=s) (f:=a) (N:=4294967296) c (by omega) (by omega) (by omega) (by rw [o];omega) g).2
def V.Inv.afh (h:V.Inv S s ls t) (ht:t+2<=1000000000000000000) (a b c:Int):V.Inv (bY S s a b c).2 s ls (t+2):=by
 unfold bY;split
 .exact h.step.step
 .rename_i U;split
  .rename_i W;obtain⟨py,hs⟩:=W;obtain⟨⟨l1,l2⟩,⟨n1,n2⟩,h3,s1,s2⟩:=py;have el:1<=s:=(by omega);have pN:=h.take (by omega:t<=1000000000000000000);have An:S.take.life=S.life+1:=jz h.l0 h.lt (by omega);have jc:∀M∈ls,M.life<S.life+1:=λM y=>by have:=(h.ol M y).2;omega
   have u9:=h.p2 U;obtain⟨q,i,C,D⟩:=qK pN.ok (a:=0) (n:=1) (by omega);have r:=kw pN.qf s 0 1;have K:=l9 S.take s 0 1;have X:S.take.puts.length=S.puts.length:=rfl;unfold lL;have P:mg S s=eC S.take s 0 1:=rfl;have Q:ni S s=eC (mg S s).2 s 1 (s-1):=rfl;have I:∀l,jT S s l=cD (ni S s).2 s 1 (l:Int):=λ_=>rfl;have R:∀l n,mh S s l n=(jT S s l).2.wr s 0 512 (gW s l n):=λ_ _=>rfl;rw [<-P] at q i C D r K;generalize mg S s=A at*;by_cases m:A.1≠0
   .rw [aG m];exact(pN.idle (by rw [An];exact jc) q r (by have:=h.p6;omega) (λc=>absurd (C m) c) i).step
   .rw [aB m];obtain⟨j,u,E,F⟩:=qK q (a:=1) (n:=s-1) (by omega);have v:=kw r s 1 (s-1);have w:=l9 A.2 s 1 (s-1);have lC:=h.ok.hi;rw [<-Q] at j u E F v w;generalize ni S s=p at*;by_cases o:p.1≠0
    .rw [aG o];exact(pN.idle (by rw [An];exact jc) j v (by rw [(D (Decidable.not_not.1 m))] at w;simp at w;omega) (λc=>absurd (E o) c) (u.trans i)).step
    .rw [aB o];have d:=F (Decidable.not_not.1 o);have Fq:=pN.idle (by rw [An];exact jc) j v (by rw [d];exact dV _) (λ_=>by rw [d];exact dV _) (u.trans i);by_cases Be:p.2.fuse=0
     .have T:∀l,jT S s l=(3,p.2):=λl=>by
       rw [I];unfold cD cy;rw [aG Be];simp
      rw [T,aG (by show (3:Int)≠0;decide)];exact Fq.step
     .obtain⟨G,L,H⟩:=sd j Fq.l0 Fq.lt (by omega) Be d 1 ((b.toNat:Nat):Int);have PR:=Fq.format (by omega) 1 ((b.toNat:Nat):Int) G;rw [<-I] at G L H PR;have x:=R b.toNat c.toNat;generalize jT S s b.toNat=P3 at*;have afi:∀M∈ls,M.life<P3.2.life:=λM y=>by have:=jc M y;omega
      by_cases z:P3.1≠0
      .rw [aG z];exact PR
      .rw [aB z];have aa8:=kD P3.2 s 0 512 (gW s b.toNat c.toNat);have Ww:=ji P3.2 s 0 512 (gW s b.toNat c.toNat);have afj:(gW s b.toNat c.toNat).length=512:=kz _ _ _;have sv:Bytes (gW s b.toNat c.toNat):=(ib _ _ _).append (iR _ _);have f:=PR.qf.wr s 0 512 sv;have NU:(P3.2.wr s 0 512 (gW s b.toNat c.toNat)).2.Ok s:=by
        by_cases PU:P3.2.fuse=0
        .have:P3.2.wr s 0 512 (gW s b.toNat c.toNat)=(3,P3.2):=(by unfold DS.wr;rw [aG PU]);rw [this];exact PR.ok
        .exact ug (k:=0) PR.ok PU (by omega) afj
       rw [<-x] at aa8 Ww f NU;rw [(H (Decidable.not_not.1 z))] at Ww;generalize mh S s b.toNat c.toNat=g at*;have e:V.Inv g.2 s ls (t+2):=PR.idle afi NU f (by simp at Ww;omega) (λ_=>by simp at Ww;omega) aa8;by_cases J:g.1≠0
       .rw [aG J];exact e
       .rw [aB J];obtain⟨N,O,Y,Z⟩:=A4 NU;refine e.idle (by rw [aa8];exact afi) N (f.fl s) ?_ ?_ O
        .have:=me g.2 s;have:=e.p6;omega
        .intro _;have:=me g.2 s;simp at Ww;omega
  .exact h.step.step
end
end
section
section
variable {S S1 S2:DS} {s t:Nat} {ls:List LG} {L L':LG} {x y:Int}
def jR.same {f UR:Nat} {Bg:List (List Int)} (a:jR S f n rs hd) (b:jR S f n Bg UR):rs=Bg/\hd=UR:=dF.unique a.t a.x b.t b.x
def j1.same (u:j1 S s x S1) (v:j1 S s y S2):x=y/\S1=S2:=by
 rcases u with ⟨n,p,rfl⟩|⟨u1,r,g⟩<;> rcases v with ⟨o,q,rfl⟩|⟨u2,t,i⟩
 .refine⟨?_,rfl⟩;rcases n with ⟨a,_,rfl⟩|⟨_,_,_,rfl⟩|⟨a,c,_,rfl⟩<;> rcases o with ⟨b,_,rfl⟩|⟨_,_,_,rfl⟩|⟨b,d,_,rfl⟩<;> first|rfl|exact absurd rfl p|exact absurd rfl q|exact absurd a b|exact absurd b a
 .exfalso;rcases n with ⟨a,_,_⟩|⟨_,_,_,rfl⟩|⟨_,c,_,_⟩
  .exact t a
  .exact p rfl
  .exact c u2
 .exfalso;rcases o with ⟨a,_,_⟩|⟨_,_,_,rfl⟩|⟨_,c,_,_⟩
  .exact r a
  .exact q rfl
  .exact c u1
 .rcases g with ⟨l,w,rfl⟩|⟨D,rs,hd,A,g⟩<;> rcases i with ⟨m,z,rfl⟩|⟨E,Bg,UR,C,i⟩
  .exact⟨l.symm.trans m,rfl⟩
  .exact absurd (l.symm.trans E) w
  .exact absurd (m.symm.trans D) z
  .obtain⟨rfl,rfl⟩:=A.same C;rcases g with ⟨a,c,e⟩|⟨ov,j,g⟩<;> rcases i with ⟨b,d,f⟩|⟨PG,k,i⟩
   .exact⟨c.trans d.symm,e.trans f.symm⟩
   .rw [a] at k;cases k
   .rw [b] at j;cases j
   .obtain rfl:ov=PG:=Option.some.inj (j.symm.trans k);rcases g with ⟨a,c,e⟩|⟨a,c,e⟩<;> rcases i with ⟨b,d,f⟩|⟨b,d,f⟩
    .exact⟨a.symm.trans b,e.trans f.symm⟩
    .exact absurd (a.symm.trans b) c
    .exact absurd (b.symm.trans a) d
    .exact⟨c.symm.trans d,e.trans f.symm⟩
def tp.same (a:tp S s L) (b:tp S s L'):L=L':=by
 obtain⟨rs,hd,ov,e,c,rfl⟩:=a;obtain⟨Bg,UR,PG,f,d,rfl⟩:=b;obtain⟨rfl,rfl⟩:=e.same f;obtain rfl:ov=PG:=Option.some.inj (c.symm.trans d);rfl
def Dk (du:S.Ok s) (b:L.Ok s) (i:L.begun=false) (g:L.life=S.life) (j:S.num L.f<(L.top+1)*4294967296) (h0:(L.start S s).1≠0):(L.start S s).2.1.fuse=0/\(L.start S s).2.1.life=S.life/\(L.start S s).2.1.Ok s/\(L.start S s).2.1.puts.length<=S.puts.length+1:=by
 obtain⟨l,jl,k⟩:=kH b.s b.n1 b.top;unfold LG.start at h0⊢;by_cases hd:L.dead S=true
 .rw [aG hd];refine⟨?_,rfl,du,by show S.puts.length<=_;omega⟩;unfold LG.dead at hd;rw [g] at hd;simpa using hd
 .rw [aB hd,aB (by rw [i];decide)] at h0⊢;have e:(((L.top+1:Nat):Int)*4294967296+((0:Nat):Int))=(((L.top+1)*4294967296:Nat):Int):=by omega
  rw [e] at h0⊢;by_cases a:(cZ S s L.f (((L.top+1)*4294967296:Nat):Int)).1≠0
  .rw [aG a];obtain⟨c,d⟩:=qd (by omega) (iD (bu du L.f (by omega)) (bu du (L.f+1) (by omega)) (N:=(L.top+1)*4294967296) (by omega) j) a;exact⟨c,iU _ _ _ _,(nW du (by omega) _).1,d⟩
  .rw [aB a] at h0;exact absurd rfl h0
def AH:∀{ks:List Nat} {l r:List Int} {cs:CM},dU ks l=some (cs,r)->∀q∈cs,q.2.length=512
 | [],l,r,cs,h=>by
  simp only [dU,Option.some.injEq,Prod.mk.injEq] at h;obtain⟨rfl,_⟩:=h;intro q a;cases a
 |k :: ks,l,r,cs,h=>by
  rw [jB] at h;split at h
  .cases h
  .rename_i c;cases b:dU ks (l.drop 512) with
   |none=>rw [b] at h;cases h
   |some x=>
    rw [b] at h;simp only [Option.map_some,Option.some.injEq,Prod.mk.injEq] at h;obtain⟨rfl,rfl⟩:=h;intro q a;rcases List.mem_cons.1 a with rfl|a
    .show (l.take 512).length=512;rw [List.length_take];omega
    .exact AH (cs:=x.1) (r:=x.2) b q a
def O9 {blocks:Nat} {cs:CM} (h:gG blocks d=some cs):∀q∈cs,q.1<blocks/\q.2.length=512:=λq f=>by
 refine⟨oV h q f,?_⟩;unfold gG at h;split at h
 .cases h
 .split at h
  .cases g:gS blocks (le (d.take 2)) 0 (d.drop 2) with
   |none=>rw [g] at h;cases h
   |some x=>
    obtain⟨ks,r⟩:=x;rw [g] at h;have c:jQ (dU ks r)=some cs:=h;cases e:dU ks r with
    |none=>rw [e] at c;cases c
    |some y=>
     obtain⟨j,i⟩:=y;rw [e] at c;cases i with
     |nil=>
      simp only [jQ,Option.some.injEq] at c;subst c;exact AH e q f
     |cons a b=>cases c
  .cases h
def vU {blocks:Nat}:∀{rs:List (List Int)} {ms ov:CM},iH blocks ms rs=some ov->(∀q∈ms,q.1<blocks/\q.2.length=512)->∀q∈ov,q.1<blocks/\q.2.length=512
 | [],ms,ov,h,hm=>by
  simp only [iH,Option.some.injEq] at h;rw [<-h];exact hm
 |r :: rs,ms,ov,h,hm=>by
  rw [tt] at h;cases a:gG blocks r with
  |none=>rw [a] at h;cases h
  |some cs=>
   rw [a] at h;exact vU h (λq b=>(um b).elim (hm q) (O9 a q))
def Iy {blocks:Nat}:∀{rs:List (List Int)} {ms ov:CM},iH blocks ms rs=some ov->CM.Ok ms->CM.Ok ov
 | [],ms,ov,h,hm=>by
  simp only [iH,Option.some.injEq] at h;rw [<-h];exact hm
 |r :: rs,ms,ov,h,hm=>by
  rw [tt] at h;cases a:gG blocks r with
  |none=>rw [a] at h;cases h
  |some cs=>
   rw [a] at h;exact Iy h (CM.qZ hm cs)
def TA (du:S.Ok s) (a:L.Ok s):(L.start S s).2.1.Ok s:=by
 have b:=a.s;have jl:=a.n1;unfold LG.start;split
 .exact du
 .split
  .exact du
  .split <;> exact(nW du (by omega) _).1
def Iz {y:LY} (du:S.Ok s) (c:S.puts= []) (n:∀q∈ov,y.home+q.1<s/\q.2.length=512) (v:ov.length<=2048) (t:3<=y.home) (fK:3<=s):(eu S s y ov rs).2.Ok s/\(eu S s y ov rs).2.life=S.life/\((eu S s y ov rs).1≠0->(eu S s y ov rs).2.fuse=0)/\((eu S s y ov rs).1=0->(eu S s y ov rs).2.puts= [])/\(eu S s y ov rs).2.puts.length<=3000/\∀i,i<3->(eu S s y ov rs).2.now i=S.now i:=by
 obtain⟨u,d,b,g,f⟩:=eD (h0:=y.home) (ms:=ov) du n;have a:=eF S s y.home ov;rw [c] at a;have arl:(aE S s y.home ov).2.puts.length<=2048:=by simp at a;omega
 unfold eu;split
 .exact⟨du,rfl,λh=>absurd rfl h,λ_=>c,by show S.puts.length<=3000;rw [c];exact dV _,λ_ _=>rfl⟩
 .split
  .rename_i q;exact⟨b,d,g,λh=>absurd h q,by omega,λi p=>f i (λq r e=>by omega)⟩
  .obtain⟨j,k,l,m⟩:=A4 b;have:=me (aE S s y.home ov).2 s;exact⟨j,k.trans d,λo=>(l o).1,m,by omega,λi p=>(eY b (by omega)).trans (f i (λq r e=>by omega))⟩
def V.Inv.fA (h:V.Inv S s ls t) (Y:t+2<=1000000000000000000) (J:j1 S s x S1):(x≠0->V.Inv S1 s ls (t+1))/\(x=0->∀L,tp S s L->V.Inv S1 s (ls ++ [L]) (t+1)):=by
 rcases J with ⟨_,O,rfl⟩|⟨qL,X,k⟩
 .exact⟨λ_=>h.step,λh0=>absurd h0 O⟩
 .rcases k with ⟨m,e,rfl⟩|⟨l,rs,hd,FB,k⟩
  .exact⟨λ_=>h.xX (by omega) _ _ (by rw [m];exact e),λh0=>absurd h0 e⟩
  .have uL:=ky qL;obtain⟨y,D⟩:=bQ (cE (S.now 0));have w:3<=y.home:=(by rw [D];show 3<=3+u32 (S.now 0) 12;omega);unfold tp;rw [<-D] at uL l FB k⊢;obtain⟨W8,ES,It,Iu⟩:=mb (f:=1) l;obtain⟨vk,BM,p,u⟩:=FB.small h.qf (by omega);have xN:=yt (s:=s) FB h.qf ES It (by omega) (by omega) (by omega);have b:=jz h.l0 h.lt (by omega:t<=1000000000000000000);have pN:S.take.Ok s:=⟨h.ok.len,h.ok.lo,h.ok.hi,h.ok.puts,h.ok.fuse⟩;have mn:bA S s 1 (y.log:Int)=S.take.fl s:=Iu;have z:(S.take.fl s).1=0:=(by rw [<-mn];exact l);have pg:=jn z;have aa9:=si (s:=s) pN;have afk:=h.qf.take.fl s;have cu:(S.take.fl s).2.life=S.life+1:=(fX _ _).trans b;have jl:∀i,i<s->(S.take.fl s).2.now i=S.now i:=λi d=>eY (S:=S.take) pN d;have JL:S.num 1<((fh S 1 y.log hd).top+1)*4294967296:=EL ES;have afl:(fh S 1 y.log hd).life=S.life+1:=b;have jc:∀M∈ls,M.life<S.life+1:=λM I=>by have:=(h.ol M I).2;omega
   have uM:=h.opened (by omega:t<=1000000000000000000) 1 (y.log:Int) (by rw [mn];exact aa9) l (hd:=hd) p (by simpa using u);rw [mn] at k uM⊢;have C4:=h.next aa9 afk (by rw [pg];exact dV _) (λ_=>by rw [pg];exact dV _) cu;have afm:V.Inv (S.take.fl s).2 s (ls ++ [fh S 1 y.log hd]) (t+1):=uM;generalize S.take.fl s=P at*;have afn:∀M∈ls,M.life<P.2.life:=(by rw [cu];exact jc);rcases k with ⟨U,rfl,rfl⟩|⟨ov,uW,k⟩
   .exact⟨λ_=>C4,λh0=>absurd h0 (by decide)⟩
   .have Xe:=vU uW (λq a=>by cases a);have Ev:∀q∈ov,y.home+q.1<s/\q.2.length=512:=λq a=>⟨by have:=(Xe q a).1;omega,(Xe q a).2⟩;have aey:ov.length<=2048:=by
     have:=h.ok.hi;rcases CM.length_le (n:=2048) (Iy uW rS) (λq a=>by have:=(Ev q a).1;omega) 0 (λ_ _=>dV _) with h1|h1
     .omega
     .rw [h1];simp
    obtain⟨g,j,R,E,Z,F⟩:=Iz (rs:=rs) aa9 pg Ev aey w (by omega);have TB:=Di (s:=s) (y:=y) (rs:=rs) afk (qJ uW (λx v=>by cases v) (λr K=>(BM r K).1));have afo:∀L,(∃Bg UR PG,jR S 1 y.log Bg UR/\iH y.blocks [] Bg=some PG/\L=((fh S 1 y.log UR).start (eu P.2 s y PG Bg).2 s).2.2)->L=((fh S 1 y.log hd).start (eu P.2 s y ov rs).2 s).2.2:=λL o=>by
     obtain⟨Bg,UR,PG,T,Q,rfl⟩:=o;obtain⟨rfl,rfl⟩:=FB.same T;obtain rfl:ov=PG:=Option.some.inj (uW.symm.trans Q);rfl
    generalize eu P.2 s y ov rs=Rd at*;have YG:=C4.idle afn g TB (by omega) (λBe=>by
     by_cases q:Rd.1=0
     .rw [E q];exact dV _
     .exact absurd (R q) Be) j
    have YH:Rd.2.num (fh S 1 y.log hd).f<((fh S 1 y.log hd).top+1)*4294967296:=by
     show Rd.2.num 1<_;rw [vN (S:=S) (S':=Rd.2) ((F 1 (by omega)).trans (jl 1 (by omega))) ((F 2 (by omega)).trans (jl 2 (by omega)))];exact JL
    have akn:(fh S 1 y.log hd).life=Rd.2.life:=(by rw [afl,j,cu]);rcases k with ⟨rfl,N,rfl⟩|⟨e,rfl,rfl⟩
    .exact⟨λ_=>YG,λh0=>absurd h0 N⟩
    .have ako:((fh S 1 y.log hd).start Rd.2 s).2.1.fL:=by
      unfold LG.start;split
      .exact TB
      .split
       .exact TB
       .split <;> exact TB.cZ s _ _
     refine⟨λv=>?_,λ_ L o=>?_⟩
     .obtain⟨m,G,H,W⟩:=Dk g xN rfl akn YH v;exact YG.idle (by rw [j];exact afn) H ako (by omega) (λc=>absurd m c) G
     .rw [afo L o];have d:(ls ++ [fh S 1 y.log hd])[ls.length]? =some (fh S 1 y.log hd):=(by simp);have A:=afm.on d (by rw [afl,cu]) g TB j (by omega) xN rfl (λ_=>⟨λc=>(by cases c),λ_=>⟨by rw [E e];rfl,YH⟩⟩);have pi:(ls ++ [fh S 1 y.log hd]).set ls.length (fh S 1 y.log hd)=ls ++ [fh S 1 y.log hd]:=(by simp);rw [pi] at A;have C:=A.start d (TA g xN);have afp:(ls ++ [fh S 1 y.log hd]).set ls.length ((fh S 1 y.log hd).start Rd.2 s).2.2=ls ++ [((fh S 1 y.log hd).start Rd.2 s).2.2]:=(by simp);rw [afp] at C;exact C
end
end
section
section
variable {S S':DS} {s f:Nat} {L:LG} {G:SG}
def IA (S:DS) {s:Nat} (h0:0<=x) (a:x<(s:Int)) (l:List Int):(S.wr s x 512 l).2.refused=S.refused:=by
 unfold DS.wr;split
 .rfl
 .rw [aB (by omega),aB (by decide)];rfl
def A5 (S:DS) (s:Nat):(S.fl s).2.refused=S.refused:=by
 unfold DS.fl;split <;> rfl
def aba (S:DS) (x:Int):(S.lay x).refused=S.refused:=by
 unfold DS.lay;split <;> rfl
def EW (S:DS) {s f:Nat} (b:f+1<s) (num:Int):(cZ S s f num).2.refused=S.refused:=by
 have mV:=fU (S.now f) (S.now (f+1)) num [];unfold cZ;split
 .rfl
 .split
  .rfl
  .have a:=IA S (s:=s) (x:=(f:Int)+((aP (S.now f) (S.now (f+1)) num []).1:Int)) (by omega) (by omega) (aP (S.now f) (S.now (f+1)) num []).2.1;split
   .exact a
   .exact(A5 _ _).trans a
def EX (L:LG) (S:DS) (s:Nat):(L.sync S s).2.refused=S.refused:=by
 unfold LG.sync;split
 .rfl
 .exact A5 _ _
def Xf (c:L.f+1<s):(L.trim S s).2.1.refused=S.refused:=by
 have a:=EX L S s;have b:=EW (L.sync S s).2 c ((L.ep:Int)*4294967296+(L.head:Int));unfold LG.trim;split
 .exact a
 .split
  .exact a
  .split <;> exact b.trans a
def ru {home:Nat}:∀{ms:CM} {S:DS},(∀q∈ms,home+q.1<s)->(aE S s home ms).2.refused=S.refused
 | [],_,_=>rfl
 |q :: qs,S,h=>by
  have c:=h q (List.mem_cons_self ..);have a:=IA S (s:=s) (x:=((home+q.1:Nat):Int)) (by omega) (by omega) q.2;unfold aE;split
  .exact a
  .exact(ru (λx b=>h x (List.mem_cons_of_mem _ b))).trans a
def IB (d:∀q∈G.ov,G.y.home+q.1<s) (e:G.L.f+1<s):(G.check S s).2.1.refused=S.refused:=by
 have a:=EX G.L S s;have b:=(ru (S:=(G.L.sync S s).2) d).trans a;have c:=(Xf (S:=(aE (G.L.sync S s).2 s G.y.home G.ov).2) e).trans b;unfold SG.check;split
 .exact a
 .split
  .exact b
  .split <;> exact c
def tz {g:Nat->DS->Int×DS}:∀k,(∀j,j<k->∀T,(g j T).2.refused=T.refused)->(cB S g k).2.refused=S.refused
 |0,_=>rfl
 |k+1,hg=>by
  have:=tz k (λj a=>hg j (by omega));unfold cB;split
  .exact this
  .exact(hg k (by omega) _).trans this
def Xg (a:1<=n) (b:f+2+n<=s):(jY S s f n E P i c l).2.refused=S.refused:=by
 have:=Nat.mod_lt P a;unfold jY;split
 .rfl
 .exact IA S (by omega) (by omega) _
def Pa (b:1<=L.n) (c:L.f+2+L.n<=s):(L.append S s d).2.1.refused=S.refused:=by
 have a:(cU L S s d (dh d.length)).2.refused=S.refused:=tz _ (λ_ _ _=>Xg b c);unfold LG.append;split
 .rfl
 .split <;> exact a
def Xh (L:LG) (S:DS) (s:Nat):(L.trim S s).2.2.f=L.f/\(L.trim S s).2.2.n=L.n:=by
 unfold LG.trim;split
 .exact⟨rfl,rfl⟩
 .split
  .exact⟨rfl,rfl⟩
  .split <;> exact⟨rfl,rfl⟩
def TC (G:SG) (S:DS) (s:Nat):(G.check S s).2.2.L.f=G.L.f/\(G.check S s).2.2.L.n=G.L.n:=by
 have h:=Xh G.L (aE (G.L.sync S s).2 s G.y.home G.ov).2 s;unfold SG.check;split
 .exact⟨rfl,rfl⟩
 .split
  .exact⟨rfl,rfl⟩
  .split <;> exact h
def Pb {c:CM} (e:∀q∈G.ov,G.y.home+q.1<s) (g:1<=G.L.n) (i:G.L.f+2+G.L.n<=s):(G.bI S s c).2.1.refused=S.refused:=by
 have a:(G.made S s (cw c).length).2.1.refused=S.refused/\(G.made S s (cw c).length).2.2.L.f=G.L.f/\(G.made S s (cw c).length).2.2.L.n=G.L.n:=by
  unfold SG.made;split
  .exact⟨rfl,rfl,rfl⟩
  .exact⟨IB e (by omega),TC G S s⟩
 unfold SG.bI;split
 .rfl
 .split
  .exact a.1
  .have b:=Pa (S:=(G.made S s (cw c).length).2.1) (s:=s) (L:=(G.made S s (cw c).length).2.2.L) (d:=cw c) (by rw [a.2.2];exact g) (by rw [a.2.1,a.2.2];exact i);split <;> exact b.trans a.1
def Lm (a:∀q∈G.ov,G.y.home+q.1<s) (b:1<=G.L.n) (c:G.L.f+2+G.L.n<=s):(T.bI G S s).2.1.refused=S.refused:=by
 unfold TG.bI;split
 .rfl
 .split
  .rfl
  .split <;> exact Pb a b c
def TD (c:f+2+n<=s):(cN S s f n).2.refused=S.refused:=by
 have a:(bE S s f (n+2)).2.refused=S.refused:=tz _ (λj b T=>IA T (by omega) (by omega) _);unfold cN;split
 .exact a
 .exact(A5 _ _).trans a
def Ln (S:DS) (s:Nat) (f n:Int):(cD S s f n).2.refused=S.refused:=by
 unfold cD;split
 .rfl
 .rename_i d;obtain⟨_,a,b,rfl,rfl,oJ,ar,bd⟩:=fV (Decidable.of_not_not d);simp only [Int.toNat_natCast];have c:(cN S.take s a b).2.refused=S.refused:=TD oJ;split
  .exact c
  .exact(EW _ (by omega) _).trans c
def IC (e:a+n<=s):(eC S s a n).2.refused=S.refused:=by
 have b:=ru (S:=S) (s:=s) (home:=a) (ms:=fb n) (λq c=>by
  unfold fb at c;obtain⟨i,d,rfl⟩:=List.mem_map.1 c;have:=List.mem_range.1 d;show a+i<s;omega)
 unfold eC;split
 .exact b
 .exact(A5 _ _).trans b
def Lo (S:DS) (s:Nat) (a b c:Int):(bY S s a b c).2.refused=S.refused:=by
 unfold bY;split
 .rfl
 .split
  .rename_i i;obtain⟨py,k⟩:=i;obtain⟨⟨l,m⟩,⟨o,p⟩,j,s1,s2⟩:=py;have d:(mg S s).2.refused=S.refused:=IC (S:=S.take) (by omega);have e:(ni S s).2.refused=S.refused:=(IC (S:=(mg S s).2) (s:=s) (a:=1) (n:=s-1) (by omega)).trans d;have f:(jT S s b.toNat).2.refused=S.refused:=(Ln (ni S s).2 s 1 (b.toNat:Int)).trans e;have g:(mh S s b.toNat c.toNat).2.refused=S.refused:=(IA (jT S s b.toNat).2 (s:=s) (x:=0) (by omega) (by omega) (gW s b.toNat c.toNat)).trans f;unfold lL;split
   .exact d
   .split
    .exact e
    .split
     .exact f
     .split
      .exact g
      .exact(A5 _ _).trans g
  .rfl
def TE (a:L.f+1<s):(L.start S s).2.1.refused=S.refused:=by
 unfold LG.start;split
 .rfl
 .split
  .rfl
  .split <;> exact EW _ a _
def TF (S:DS) (s:Nat) (f n:Int):(bA S s f n).2.refused=S.refused:=by
 unfold bA;split
 .rfl
 .split
  .rfl
  .split
   .rfl
   .exact A5 _ _
def TH (b:∀q∈ov,y.home+q.1<s):(eu S s y ov rs).2.refused=S.refused:=by
 have a:=ru (S:=S) b;unfold eu;split
 .rfl
 .split
  .exact a
  .exact(A5 _ _).trans a
def j1.rf (h:j1 S s x S'):S'.refused=S.refused:=by
 rcases h with ⟨_,_,rfl⟩|⟨qL,d,k⟩
 .rfl
 .have uL:=ky qL;have a:=TF S s 1 (((cE (S.now 0)).log:Nat):Int);rcases k with ⟨_,_,rfl⟩|⟨e,rs,hd,FB,k⟩
  .exact a
  .rcases k with ⟨_,_,rfl⟩|⟨ov,uW,k⟩
   .exact a
   .have Xe:=vU uW (λq b=>by cases b);have c:=(TH (S:=(bA S s 1 (((cE (S.now 0)).log:Nat):Int)).2) (s:=s) (y:=cE (S.now 0)) (ov:=ov) (rs:=rs) (λq b=>by have:=(Xe q b).1;omega)).trans a;rcases k with ⟨_,_,rfl⟩|⟨_,_,rfl⟩
    .exact c
    .exact(TE (by show 1+1<s;omega)).trans c
end
end
def Pc {w:World} {F:Nat->Prop} {p s:Nat} {S:DS} (h:B.ax w F p s S c) (dC:S.fL) (aU:S.puts.length+6000<=4000000000000) (hf:S.fuse≠0) (qL:mM (S.now 0) s):
  Calls prog 18 #[pQ p] w λe w'=>Ti w F p s c S e w':=by
 obtain⟨w1,bL⟩:=bQ ((w.alloc (.cells #[.pointer none] 53)).alloc (.cells #[.int .i64 0] 49));have bO:bW w w1:=by rw [bL];exact cm w _ _
 have sq:w1.heap.size=w.heap.size+2:=by rw [bL];simp
 have py:w1.heap[w.heap.size]? =some (.cells #[.pointer none] 53 (0,0)):=by rw [bL];exact heap_alloc2_old _ _ _
 have fZ:w1.heap[w.heap.size+1]? =some (.cells #[.int .i64 0] 49 (0,0)):=by rw [bL];exact heap_alloc2_new _ _ _
 have bq:=h.lt;have hly:=uD (h.later bO) dC (by omega);have uL:=ky qL;clear h
 go_enter_defers func18,ntmps18
 go_wp2_with fail;rw [<-bL];clear bL;refine hly.mono ?_;rintro e w2 ⟨y,x,rfl,mn,cI,aY⟩;have ev:=aY.size;have rG:x=0/\y=cE (S.now 0):=by
  rcases mn with ⟨h1,_⟩|⟨_,_,h2,h3⟩|⟨_,h1,_⟩
  .exact absurd h1 hf
  .exact⟨h3,h2⟩
  .exact absurd qL h1
 obtain⟨rfl,Ym⟩:=rG;rw [<-Ym] at uL;have H:=yh Ym;have WU:=(aY.block w.heap.size (by omega) (λd=>by have:=bq _ d;omega)).trans py;have Ik:=(aY.block (w.heap.size+1) (by omega) (λd=>by have:=bq _ d;omega)).trans fZ;have HK:Yh (B.ax w2 F p s S (c+1)/\aa F w w2):=⟨cI,(aa.ah F bO).trans aY (λ_ h=> .inl h)⟩;have d0:=aM Ik;have e0:=ae Ik 0;have fH:w.heap.size+1<w2.heap.size:=by omega
 obtain⟨q,J,P,M,o5,o6⟩:=aeY bq fH WU Ik HK.o.1 HK.o.2 0 (.cells #[.int .i64 (y.log:Int), .int .i64 (y.home:Int), .int .i64 (y.blocks:Int), .int .i64 (y.nodes:Int), .int .i64 (y.data:Int)] 86);clear hly mn cI aY Ym
 dsimp only [PQ]
 go_upto_region 3 with fail
 generalize (w2.setCell ⟨w.heap.size+1,0,none⟩ (.int .i64 0)).alloc (.cells #[.int .i64 (y.log:Int), .int .i64 (y.home:Int), .int .i64 (y.blocks:Int), .int .i64 (y.nodes:Int), .int .i64 (y.data:Int)] 86)=w3 at*;have HW:=yh (aH q (aH J (aH P (aH M o5))));have I:=aj J (j:=0) (u:=iV 0) rfl;have l0:=aM P;have mj:=B.Th M dC 1 (y.log:Int) (by omega);clear q J P M o5 d0 e0 WU Ik HK py fZ bO;go_wp2_with fail;refine mj.mono ?_;rintro e w4 ⟨uM,K,dW⟩;clear mj I l0;have ws:=dW.size;have ar:=(dW.block w.heap.size (by omega) (λd=>by have:=bq _ d;omega)).trans HW.o.1;have bd:=(dW.block (w.heap.size+1) (by omega) (λd=>by have:=bq _ d;omega)).trans HW.o.2.1;have bF:=(dW.block w2.heap.size (by omega) (λd=>by have:=bq _ d;omega)).trans HW.o.2.2.1;have EQ:=HW.o.2.2.2.2.trans dW (λ_ h=> .inl h);have vB:=aaV S s y.log;unfold Kh at uM;by_cases Z:(bA S s 1 (y.log:Int)).1=0
 .rw [aB (λh=>h Z)] at uM;obtain⟨l,v,rs,hd,rfl,j6,TI⟩:=uM;obtain⟨q,J,P,M⟩:=aeZ 0 (λk d=> .inl (bq k d)) ar bd K;have I:=aj bd (j:=0) (u:=iV 0) rfl;have Y:=ae bd 0;have arn:=TI.p.lt;have Pd:=(M.block w2.heap.size (by omega) (by omega)).trans bF;have HT:=yh TI;have Yd:=yh Z;clear dW ar bd bF K HW TI Z
  go_upto_region 6 with fail
  generalize Jg:w4.setCell ⟨w.heap.size+1,0,none⟩ (.int .i64 0)=w5 at*;have pR:w5.heap.size=w4.heap.size:=by rw [<-Jg,size_setCell]
  clear I Y Jg;obtain⟨c1,f1,I,l0,l1,l2,l3,l4⟩:=xq (aM q) (ae q 0) (aj J (j:=0) (u:=iV 0) rfl) (aM Pd) (bG Pd) (bK Pd) (fQ Pd) (gH Pd);have aro:w.heap.size<w5.heap.size:=by omega
  have HX:=yh (aH q (aH J (aH P M)));have HZ5:=yh pR;have hbN:=cm w5 (.map #[] 0) (.cells (PE p l w5.heap.size y false) 95);have c1N:=aj ((hbN.block _ (aq q)).trans q) (j:=0) (u:= .pointer none) rfl;have f1N:=ae ((hbN.block _ (aq q)).trans q) 0;clear q J P Pd pR hbN;have B9:= @run_makeMap prog
  go_upto_region 9 with fail
  obtain⟨D,MN⟩:=bQ (((w5.setCell ⟨w.heap.size,0,none⟩ (.pointer (some ⟨w5.heap.size+1,0,none⟩))).alloc (.map #[] 0)).alloc (.cells (PE p l w5.heap.size y false) 95));rw [<-MN];obtain⟨r1,r2,r3,r4,r5,r6,r7⟩:=ae0 (l:=l) (y:=y) bq HX.o.1 HX.o.2.1 HX.o.2.2.1 MN;have Hw:=(HT.o.aw HX.o.2.2.2 (λk e=>by omega) (by omega)).aw r6 (λk e=>by omega) (by omega);have FB:jR S 1 y.log rs hd:=⟨Hw.t,Hw.x⟩;obtain⟨W8,ES,It,Iu⟩:=mb (f:=1) Yd.o;obtain⟨jl,mS,xY,Wm⟩:=FB.small dC (by omega);have YD:(bA S s 1 (y.log:Int)).2.puts= []:=by
   have:=Yd.o;rw [show bA S s 1 (y.log:Int)=S.take.fl s from Iu] at this⊢;exact jn this
  have abb:(bA S s 1 (y.log:Int)).2.fL:=by
   rw [show bA S s 1 (y.log:Int)=S.take.fl s from Iu];exact dC.take.fl s
  obtain⟨S1,abc⟩:∃S1,S1=(bA S s 1 (y.log:Int)).2:=⟨_,rfl⟩;rw [<-abc] at r5 YD abb;have ZP:¬F (w5.heap.size+1):=λd=>by have:=bq _ d;omega
  have hkm:¬F w5.heap.size:=λd=>by have:=bq _ d;omega
  have hre:=Tc r5 r3 r4 ZP hkm uL.1 Hw.r.ae1 mS (by omega) (by rw [YD];simp);have a:=yh (aH r1 (aH r2 (aH r3 (aH r5 (aH Hw (aH FB (aH YD (aH abb (aH abc (aH mS (aH r6 (aH ES It))))))))))));have cq1:=aM r1;clear r1 r2 r3 r4 r5 Hw FB YD abb abc jl mS xY Wm W8 ES It Iu MN HT HX c1 I f1 c1N f1N l0 l1 l2 l3 l4 B9;have RF:=r7;clear r7 r6;go_wp2_with fail;refine hre.mono ?_;rintro e i Ih;clear hre cq1;have AG:=(EQ.trans M (λk e=> .inr (by omega))).trans a.o.2.2.2.2.2.2.2.2.2.2.1 (λk e=> .inr (by omega));have pR:=HZ5.o;clear EQ M;rcases Ih with ⟨hn,rfl,nP,gQ⟩|⟨ov,uW,rfl,nP,gQ,Xi⟩
  .have hz7:=gQ.size;have m:=(gQ.block w.heap.size (by omega) (by omega)).trans a.o.1;have n:=(gQ.block (w.heap.size+1) (by omega) (by omega)).trans a.o.2.1;obtain⟨A,C,p3,g⟩:=oset (w:=w) (v:= .pointer none) (x:=6) (λk d=> .inl (bq k d)) m n nP;have HG:=yh (aH m n);have O:Yh (j1 S s 6 S1):=by
    unfold j1;rw [<-H.o];exact .inr ⟨qL,hf, .inr ⟨Yd.o,rs,hd,a.o.2.2.2.2.2.1, .inl ⟨hn,rfl,a.o.2.2.2.2.2.2.2.2.1⟩⟩⟩
   have b:=yh (aH A (aH C (aH p3 ((AG.trans gQ (λk e=> .inr (by omega))).trans g (λk e=> .inr (by omega)):aa F w _))));clear A C p3 g nP gQ m n hn AG;go_wp2;refine leaves_cons (f:=53) (args:= #[pQ w.heap.size, .pointer (some ⟨w.heap.size+1,0,none⟩)]) (by simp) (by simp [go_sem]) ?_;refine(EK w.heap.size (w.heap.size+1) _ _ _ HG.o.1 HG.o.2 (by omega)).mono ?_;rintro e u' Bq ⟨rfl,rfl,afq⟩;rw [<-afq] at b;have Q:=aj b.o.1 (j:=0) (u:= .pointer none) rfl;have U:=aj b.o.2.1 (j:=0) (u:=iV 6) rfl;clear afq;simp [Leaves,settle,results,results18,go_sem,Q,U];exact⟨6,S1,_,by have:=H.o;rw [<-this];omega,O.o,b.o.2.2.2, .inl ⟨by decide,rfl,b.o.2.2.1.more⟩⟩
  .obtain⟨R,E⟩:=bQ (eu S1 s y ov rs);rw [<-E] at nP Xi;rw [<-E];have hz7:=gQ.size;have m:=(gQ.block w.heap.size (by omega) (λe=>by rcases e with e|e;omega;have:=bq _ e;omega)).trans a.o.1;have n:=(gQ.block (w.heap.size+1) (by omega) (λe=>by rcases e with e|e;omega;have:=bq _ e;omega)).trans a.o.2.1;have c1:=aM m;have f1:=ae m 0;have I:=aj n (j:=0) (u:=iV 0) rfl;have Y:=ae n 0;have Xj:∀k,more F D i k->k<w.heap.size\/w.heap.size+2<=k:=λk h=>by
    rcases h with h|h
    .exact .inl (bq k h)
    .exact .inr (by omega)
   have B3:=AG.trans gQ (λk e=>by rcases e with e|e;exact .inr (by omega);exact .inl e);by_cases N:R.1=0
   .have dz:(R.1 == 0)=true:=(by rw [N];rfl);have dz2:(R.1 != 0)=false:=(by simp [N]);obtain⟨L,hL⟩:=bQ (fh S 1 y.log hd);have afr:cW D l p L:=(by rw [hL];exact a.o.2.2.2.2.1.p);have xN:L.Ok s:=(by rw [hL];exact yt a.o.2.2.2.2.2.1 dC a.o.2.2.2.2.2.2.2.2.2.2.2.1 a.o.2.2.2.2.2.2.2.2.2.2.2.2 uL.2.1 uL.2.2.1 uL.2.2.2.1);have xU:l≠w5.heap.size:=(by omega);have hlF:¬F l:=λe=>by have:=bq _ e;omega
    have akr:¬more F D i l:=λe=>by
     rcases e with e|e
     .exact hlF e
     .omega
    have afs:=afr.aw gQ (λe=>by rcases e with e|e;exact xU e;exact hlF e);have xK:=a.o.2.2.1.aw gQ (λe=>by rcases e with e|e;omega;exact ZP e);have hRb:R.2.fL:=(by rw [E];exact Di a.o.2.2.2.2.2.2.2.1 (qJ uW (λx hx=>by cases hx) (λr hr=>(a.o.2.2.2.2.2.2.2.2.2.1 r hr).1)));have hRp:R.2.puts.length<=0:=by
     have h1:=Lc (S:=S1) (s:=s) (y:=y) (ov:=ov) (rs:=rs) (by rw [<-E];exact N);rw [<-E,a.o.2.2.2.2.2.2.1] at h1;exact h1
    have abd:=B.OX nP afs xN akr hRb (by omega);obtain⟨T,hT⟩:=bQ (L.start R.2 s);rw [<-hT] at abd;have O:Yh (j1 S s T.1 T.2.1):=by
     unfold j1;rw [<-H.o];exact .inr ⟨qL,hf, .inr ⟨Yd.o,rs,hd,a.o.2.2.2.2.2.1, .inr ⟨ov,uW, .inr ⟨by rw [<-a.o.2.2.2.2.2.2.2.2.1,<-E];exact N,by rw [<-a.o.2.2.2.2.2.2.2.2.1,<-E,<-hL,<-hT],by rw [<-a.o.2.2.2.2.2.2.2.2.1,<-E,<-hL,<-hT]⟩⟩⟩⟩
    have HSL:Yh (tp S s T.2.2):=by
     unfold tp;rw [<-H.o];exact⟨rs,hd,ov,a.o.2.2.2.2.2.1,uW,by rw [<-a.o.2.2.2.2.2.2.2.2.1,<-E,<-hL,<-hT]⟩
    have sb:T.1=0->T.2.2.Ok s/\T.2.2.begun=true:=(by rw [hT];exact tk xN);have X:=yh (aH m (aH n (aH xK (aH (Xi N) (aH B3 sb)))));clear nP gQ m n AG B3 E Xi N hL afr xN afs xK hRb hRp hT sb uW c1 I f1 Y pR;generalize R.1=z at*;go_wp2_with fail;refine pr abd λG oR abe jW=>?_;clear abd;have pR:=HZ5.o;have hz8:=jW.size;have m:=(jW.block w.heap.size (by omega) (λe=>by rcases e with e|e;rcases Xj _ e with e|e <;> omega;omega)).trans X.o.1;have n:=(jW.block (w.heap.size+1) (by omega) (λe=>by rcases e with e|e;rcases Xj _ e with e|e <;> omega;omega)).trans X.o.2.1;have c1:=aj m (j:=0) (u:= .pointer (some ⟨w5.heap.size+1,0,none⟩)) rfl;have f1:=ae m 0;have I:=aj n (j:=0) (u:=iV 0) rfl;have Y:=ae n 0;have YI:∀k,more (more F D i) i G k->k<w.heap.size\/w.heap.size+2<=k:=λk h=>by
     rcases h with h|h
     .exact Xj k h
     .exact .inr (by omega)
    have Xk:=X.o.2.2.2.2.1.trans jW (λk e=>by
     rcases e with (e|e)|e
     .exact .inl e
     .exact .inr (by omega)
     .exact .inr (by omega))
    have Wk:∀(w9:World),G.heap.size<=w9.heap.size->∀k,more (more F D i) i G k->more F w w9 k:=λw9 hz k h=>by
     rcases h with (h|h)|h
     .exact .inl h
     .exact .inr (by omega)
     .exact .inr (by omega)
    by_cases W:T.1=0
    .have dt:(T.1 == 0)=true:=(by rw [W];rfl);have dt2:(T.1 != 0)=false:=(by simp [W]);obtain⟨A,C,p3,g⟩:=oset (w:=w) (v:= .pointer (some ⟨w5.heap.size+1,0,none⟩)) (x:=0) YI m n oR;have hq8:¬more (more F D i) i G (w5.heap.size+1):=λe=>by
      rcases e with (e|e)|e
      .exact ZP e
      .omega
      .omega
     have XO:¬more (more F D i) i G w5.heap.size:=λe=>by
      rcases e with (e|e)|e
      .exact hkm e
      .omega
      .omega
     have Da:¬more (more F D i) i G l:=λe=>by
      rcases e with (e|e)|e
      .exact hlF e
      .omega
      .omega
     have WE:=(X.o.2.2.1.aw jW (λe=>by rcases e with e|e;exact hq8 (.inl e);omega)).aw g (by omega);have aft:=(X.o.2.2.2.1.aw jW (λe=>by rcases e with e|e;exact XO (.inl e);omega)).aw g (by omega);have afu:=abe.aw g (by omega);have Gb:=X.o.2.2.2.2.2 W;have hSt:it ((G.setCell ⟨w.heap.size,0,none⟩ (.pointer (some ⟨w5.heap.size+1,0,none⟩))).setCell ⟨w.heap.size+1,0,none⟩ (.int .i64 0)) (more (more F D i) i G) p s (c+1+B.oRd S s 1 (y.log:Int)+2) (w5.heap.size+1) l w5.heap.size T.2.1 ⟨y,T.2.2, [],false⟩:=
        ⟨p3,WE,afu,aft,hq8,Da,XO,by omega,by omega,xU,Gb.1,Gb.2,uL.1,(λx hx=>by cases hx)⟩
     obtain⟨b,HT0⟩:=bU (aH A (aH C (aH hSt (aH (Xk.trans g (λk e=> .inr (by omega)):aa F w _) (Wk _ g.size))))) W;have TJ:=yh (aH (by omega:w.heap.size<=w5.heap.size+1) (aH (by omega:w.heap.size<=l) (by omega:w.heap.size<=w5.heap.size)));clear A C p3 g oR abe jW m n Xk Wk WE aft afu Gb hSt X W pR;go_wp2;generalize (G.setCell ⟨w.heap.size,0,none⟩ (.pointer (some ⟨w5.heap.size+1,0,none⟩))).setCell ⟨w.heap.size+1,0,none⟩ (.int .i64 0)=w9 at*;have Q:=aj b.o.1 (j:=0) (u:= .pointer (some ⟨w5.heap.size+1,0,none⟩)) rfl;have U:=aj b.o.2.1 (j:=0) (u:=iV 0) rfl;refine leaves_cons (f:=53) (args:= #[pQ w.heap.size, .pointer (some ⟨w.heap.size+1,0,none⟩)]) (by simp) (by simp [go_sem]) ?_;refine(kW _ _ _).mono ?_;rintro e u' Bq ⟨rfl,rfl,rfl⟩;simp [Leaves,settle,results,results18,go_sem,Q,U];have bw:=b.o.2.2.1;rw [H.o] at bw;have ho:=O.o;rw [HT0.o] at ho;exact⟨0,T.2.1,_,by have:=H.o;rw [<-this];omega,ho,b.o.2.2.2.1, .inr ⟨rfl,w5.heap.size+1,l,w5.heap.size,T.2.2,_,HSL.o,rfl,b.o.2.2.2.2,TJ.o.1,TJ.o.2.1,TJ.o.2.2,bw⟩⟩
    .have dt:(T.1 == 0)=false:=(by simpa using W);have dt2:(T.1 != 0)=true:=(by simp [W]);obtain⟨A,C,p3,g⟩:=oset (w:=w) (v:= .pointer none) (x:=T.1) YI m n oR;have afv:∀k,more F w ((G.setCell ⟨w.heap.size,0,none⟩ (.pointer none)).setCell ⟨w.heap.size+1,0,none⟩ (.int .i64 T.1)) k->k<((G.setCell ⟨w.heap.size,0,none⟩ (.pointer none)).setCell ⟨w.heap.size+1,0,none⟩ (.int .i64 T.1)).heap.size:=λk h=>by
      have R2:=g.size;rcases h with h|h
      .have:=bq k h;omega
      .omega
     obtain⟨b,HT0⟩:=bU (aH A (aH C (aH (p3.mono (Wk _ g.size) afv) (Xk.trans g (λk e=> .inr (by omega)):aa F w _)))) W;clear A C p3 g oR abe jW m n Xk Wk afv X W;generalize T.1=t at*;go_wp2;generalize (G.setCell ⟨w.heap.size,0,none⟩ (.pointer none)).setCell ⟨w.heap.size+1,0,none⟩ (.int .i64 t)=w9 at*;have Q:=aj b.o.1 (j:=0) (u:= .pointer none) rfl;have U:=aj b.o.2.1 (j:=0) (u:=iV t) rfl;refine leaves_cons (f:=53) (args:= #[pQ w.heap.size, .pointer (some ⟨w.heap.size+1,0,none⟩)]) (by simp) (by simp [go_sem]) ?_;refine(kW _ _ _).mono ?_;rintro e u' Bq ⟨rfl,rfl,rfl⟩;simp [Leaves,settle,results,results18,go_sem,Q,U];exact⟨t,T.2.1,_,by have:=H.o;rw [<-this];omega,O.o,b.o.2.2.2, .inl ⟨HT0.o,rfl,b.o.2.2.1⟩⟩
   .have dz:(R.1 == 0)=false:=(by simpa using N);have dz2:(R.1 != 0)=true:=(by simp [N]);obtain⟨A,C,p3,g⟩:=oset (w:=w) (v:= .pointer none) (x:=R.1) Xj m n nP;have O:Yh (j1 S s R.1 R.2):=by
     unfold j1;rw [<-H.o];exact .inr ⟨qL,hf, .inr ⟨Yd.o,rs,hd,a.o.2.2.2.2.2.1, .inr ⟨ov,uW, .inl ⟨by rw [E,a.o.2.2.2.2.2.2.2.2.1],N,by rw [E,a.o.2.2.2.2.2.2.2.2.1]⟩⟩⟩⟩
    have Ce:B.ax ((i.setCell ⟨w.heap.size,0,none⟩ (.pointer none)).setCell ⟨w.heap.size+1,0,none⟩ (.int .i64 R.1)) (more F w ((i.setCell ⟨w.heap.size,0,none⟩ (.pointer none)).setCell ⟨w.heap.size+1,0,none⟩ (.int .i64 R.1))) p s R.2 (c+1+B.oRd S s 1 (y.log:Int)):=by
     have R2:=g.size;refine p3.mono (λk h=>?_) (λk h=>?_)
     .rcases h with h|h
      .exact .inl h
      .exact .inr (by omega)
     .rcases h with h|h
      .have:=bq k h;omega
      .omega
    obtain⟨b,OF⟩:=bU (aH A (aH C (aH Ce (B3.trans g (λk e=> .inr (by omega)):aa F w _)))) N;clear A C p3 g nP gQ m n AG B3 Ce E Xi N;generalize R.1=z at*;go_wp2;generalize (i.setCell ⟨w.heap.size,0,none⟩ (.pointer none)).setCell ⟨w.heap.size+1,0,none⟩ (.int .i64 z)=G at*;have Q:=aj b.o.1 (j:=0) (u:= .pointer none) rfl;have U:=aj b.o.2.1 (j:=0) (u:=iV z) rfl;refine leaves_cons (f:=53) (args:= #[pQ w.heap.size, .pointer (some ⟨w.heap.size+1,0,none⟩)]) (by simp) (by simp [go_sem]) ?_;refine(kW _ _ _).mono ?_;rintro e u' Bq ⟨rfl,rfl,rfl⟩;simp [Leaves,settle,results,results18,go_sem,Q,U];exact⟨z,R.2,_,by have:=H.o;rw [<-this];omega,O.o,b.o.2.2.2, .inl ⟨OF.o,rfl,b.o.2.2.1⟩⟩
 .rw [aG Z] at uM;subst uM;have O:Yh (j1 S s (bA S s 1 (y.log:Int)).1 (bA S s 1 (y.log:Int)).2):= .inr ⟨qL,hf, .inl ⟨by rw [<-H.o],Z,by rw [<-H.o]⟩⟩;obtain⟨S',hS'⟩:∃S',S'=(bA S s 1 (y.log:Int)).2:=⟨_,rfl⟩;rw [<-hS'] at O K;obtain⟨x,hx⟩:∃x,x=(bA S s 1 (y.log:Int)).1:=⟨_,rfl⟩;rw [<-hx] at O Z;rw [<-hx];have dx2:(x != 0)=true:=by simp [Z]
  obtain⟨q,J,P,M⟩:=aeZ x (λk d=> .inl (bq k d)) ar bd K;have I:=aj bd (j:=0) (u:=iV 0) rfl;have Y:=ae bd 0;clear hx hS' dW ar bd bF K HW
  go_upto_region 6 with fail
  generalize w4.setCell ⟨w.heap.size+1,0,none⟩ (.int .i64 x)=w5 at*;clear I Y;have c1:=aM q;have f1:=ae q 0;have I:=aj J (j:=0) (u:=iV x) rfl;have Y:=ae J 0;obtain⟨A,C,p3,g⟩:=oset (w:=w) (v:= .pointer none) (x:=x) (λk d=> .inl (bq k d)) q J P;clear q J P
  go_upto_region 7 with fail
  go_region
  have pk:=EQ.trans M (λk e=> .inr (by omega));generalize (w5.setCell ⟨w.heap.size,0,none⟩ (.pointer none)).setCell ⟨w.heap.size+1,0,none⟩ (.int .i64 x)=D at*;have UO:bW D D.drew:=ai (bi _ _);have HF:Yh (B.ax D.drew F p s S' (c+1+B.oRd S s 1 (y.log:Int))/\aa F w D.drew):=⟨p3.later UO,(pk.trans g (λk e=> .inr (by omega))).trans (aa.ah (λ_=>False) UO) (λ_ h=>h.elim)⟩;have Q:=aj ((UO.block _ (aq A)).trans A) (j:=0) (u:= .pointer none) rfl;have U:=aj ((UO.block _ (aq C)).trans C) (j:=0) (u:=iV x) rfl;clear A C p3 g UO c1 I f1 Y M pk EQ;generalize D.drew=i at*;go_wp2;refine leaves_cons (f:=53) (args:= #[pQ w.heap.size, .pointer (some ⟨w.heap.size+1,0,none⟩)]) (by simp) (by simp [go_sem]) ?_;refine(kW _ _ _).mono ?_;rintro e u' Bq ⟨rfl,rfl,rfl⟩;simp [Leaves,settle,results,results18,go_sem,Q,U];exact⟨x,S',_,by have:=H.o;rw [<-this];omega,O.o,HF.o.2, .inl ⟨Z,rfl,HF.o.1.more⟩⟩
section
structure PI where
 q:Nat
 l:Nat
 m:Nat
 G:SG
structure PT where
 i:Nat
 t:Nat
 n:Nat
 T:TG
structure PW (w:World) (F P:Nat->Prop) (p s:Nat) (S:DS) (c:Nat) (ss:List PI) (ts:List PT):Prop where
 d:B.ax w F p s S c
 fM:∀g,P g->¬F g
 lt:∀g,P g->g<w.heap.size
 st:∀I∈ss,np w I.q p I.l I.m I.G.y I.G.busy/\cW w I.l p I.G.L/\Ch w I.m I.G.ov/\(P I.q/\P I.l/\P I.m)/\I.G.L.Ok s/\I.G.L.begun=true/\I.G.y.home+I.G.y.blocks<=s/\∀x∈I.G.ov,x.1<I.G.y.blocks
 tx:∀J∈ts,∃I,ss[J.i]? =some I/\w.heap[J.t]? =some (.cells (BO I.q J.n J.T) 98 (0,0))/\Ch w J.n J.T.puts/\(P J.t/\P J.n)/\∀x∈J.T.puts,x.1<I.G.y.blocks
 nq:(ss.map (·.q)).Nodup
 nl:(ss.map (·.l)).Nodup
 nm:(ss.map (·.m) ++ ts.map (·.n)).Nodup
 nt:(ts.map (·.t)).Nodup
def cY {w:World} {b:Nat} {x y:Array Value} {f:TypeId} {u v:Nat×Nat} (c:w.heap[a]? =some (.cells x e u)) (d:w.heap[b]? =some (.cells y f v)) (dM:e≠f):a≠b:=λh=>by
 rw [h,d] at c;simp at c;exact dM c.2.1.symm
def lw {w:World} {m b:Nat} {ms:CM} {y:Array Value} {f:TypeId} {v:Nat×Nat} (a:Ch w m ms) (c:w.heap[b]? =some (.cells y f v)):m≠b:=λh=>a.qH (by rw [h];exact c)
def iY {f:α->Nat} {l:List α} (h:(l.map f).Nodup) {i j:Nat} {a b:α} (n:l[i]? =some a) (o:l[j]? =some b) (dM:i≠j):f a≠f b:=λe=>by
 obtain⟨k,d⟩:=mP.1 n;obtain⟨m,g⟩:=mP.1 o;rw [List.nodup_iff_pairwise_ne,List.pairwise_iff_getElem] at h;rcases Nat.lt_or_gt_of_ne dM with c|c
 .have:=h i j (by simpa using k) (by simpa using m) c;simp only [List.getElem_map,d,g] at this;exact this e
 .have:=h j i (by simpa using m) (by simpa using k) c;simp only [List.getElem_map,d,g] at this;exact this e.symm
section
variable {w w':World} {F F' P:Nat->Prop} {p s c c' i j:Nat} {S S':DS} {ss:List PI} {ts:List PT} {I:PI} {J:PT} {G':SG} {T':TG}
def PW.EY (h:PW w F P p s S c ss ts) (o:ss[i]? =some I):it w F p s c I.q I.l I.m S I.G:=by
 obtain⟨a,b,f,⟨r,t,p3⟩,g,j,k,n⟩:=h.st I (gA o);exact⟨h.d,a,b,f,h.fM _ r,h.fM _ t,h.fM _ p3,cY a b (by decide),λe=>lw f a e.symm,λe=>lw f b e.symm,g,j,k,n⟩
def PW.Lp (h:PW w F P p s S c ss ts) (o:ts[j]? =some J) (d:ss[J.i]? =some I):mH w F I.q I.l I.m J.t J.n I.G J.T:=by
 obtain⟨I',nC,a,b,⟨v,x⟩,u⟩:=h.tx J (gA o);obtain rfl:I'=I:=Option.some.inj (nC.symm.trans d);obtain⟨g,k,r,_⟩:=h.st I' (gA d);have f:J.n≠I'.m:=λe=>by
  have:=(List.nodup_append.1 h.nm).2.2 I'.m (List.mem_map_of_mem (gA d)) J.n (List.mem_map_of_mem (gA o));exact this e.symm
 exact⟨a,b,h.fM _ v,h.fM _ x,cY a g (by decide),cY a k (by decide),λe=>lw r a e.symm,λe=>lw b a e.symm,lw b g,lw b k,f,u⟩
def PW.at (h:PW w F P p s S c ss ts) (b:ts[j]? =some J):∃I,ss[J.i]? =some I:=by
 obtain⟨I,a,_⟩:=h.tx J (gA b);exact⟨I,a⟩
def PW.aw (h:PW w F P p s S c ss ts) (a:aa Z w w') (m:∀g,F g->¬Z g) (b:∀g,P g->¬Z g):PW w' F P p s S c ss ts:=by
 refine⟨h.d.aw a m,h.fM,λg q=>i6 (h.lt g q) a.size,λI n=>?_,λJ o=>?_,h.nq,h.nl,h.nm,h.nt⟩
 .obtain⟨i,j,k,⟨e,f,p3⟩,l⟩:=h.st I n;exact⟨i.aw a (b _ e),j.aw a (b _ f),k.aw a (b _ p3),⟨e,f,p3⟩,l⟩
 .obtain⟨I,r,i,j,⟨e,f⟩,k⟩:=h.tx J o;exact⟨I,r,(a.block _ (aq i) (b _ e)).trans i,j.aw a (b _ f),⟨e,f⟩,k⟩
def PW.later (h:PW w F P p s S c ss ts) (a:bW w w'):PW w' F P p s S c ss ts:=h.aw (aa.ah (λ_=>False) a) (λ_ _ h=>h) (λ_ _ h=>h)
def PW.on (h:PW w F P p s S c ss ts) (o:ss[i]? =some I) (A:ts[j]? =some J) (PX:J.i=i) (Y:G'.y=I.G.y) (X:∀g,F' g->more F w w' g) (bw:it w' F' p s c' I.q I.l I.m S' G') (nU:w'.heap[J.t]? =some (.cells (BO I.q J.n T') 98 (0,0))) (nr:Ch w' J.n T'.puts) (ph:∀x∈T'.puts,x.1<G'.y.blocks) (D:aa (λg=>F g\/g=I.q\/g=I.l\/g=I.m\/g=J.t\/g=J.n) w w'):
  PW w' F' P p s S' c' (ss.set i {I with G:=G'}) (ts.set j {J with T:=T'}):=by
 have K6:=(mP.1 o).1;have C:=(mP.1 A).1;obtain⟨Xl,Xm,u,⟨pq,Z,pm⟩,_⟩:=h.st I (gA o);obtain⟨I0,rL,r,v,⟨pt,pn⟩,_⟩:=h.tx J (gA A);have xz:=List.nodup_append.1 h.nm;have B5:∀g,P g->¬F' g:=λg L a=>by
  rcases X g a with a|a
  .exact h.fM g L a
  .have:=h.lt g L;omega
 have akv:(ss.set i {I with G:=G'}).map (·.q)=ss.map (·.q):=by
  rw [List.map_set];apply List.ext_getElem?;intro n;by_cases e:n=i
  .subst e;rw [List.getElem?_set_self (by simpa using K6),Bk,o];rfl
  .rw [List.getElem?_set_ne (λh=>e h.symm)]
 have akw:(ss.set i {I with G:=G'}).map (·.l)=ss.map (·.l):=by
  rw [List.map_set];apply List.ext_getElem?;intro n;by_cases e:n=i
  .subst e;rw [List.getElem?_set_self (by simpa using K6),Bk,o];rfl
  .rw [List.getElem?_set_ne (λh=>e h.symm)]
 have akx:(ss.set i {I with G:=G'}).map (·.m)=ss.map (·.m):=by
  rw [List.map_set];apply List.ext_getElem?;intro n;by_cases e:n=i
  .subst e;rw [List.getElem?_set_self (by simpa using K6),Bk,o];rfl
  .rw [List.getElem?_set_ne (λh=>e h.symm)]
 have aky:(ts.set j {J with T:=T'}).map (·.t)=ts.map (·.t):=by
  rw [List.map_set];apply List.ext_getElem?;intro n;by_cases e:n=j
  .subst e;rw [List.getElem?_set_self (by simpa using C),Bk,A];rfl
  .rw [List.getElem?_set_ne (λh=>e h.symm)]
 have akz:(ts.set j {J with T:=T'}).map (·.n)=ts.map (·.n):=by
  rw [List.map_set];apply List.ext_getElem?;intro n;by_cases e:n=j
  .subst e;rw [List.getElem?_set_self (by simpa using C),Bk,A];rfl
  .rw [List.getElem?_set_ne (λh=>e h.symm)]
 refine⟨bw.d,B5,λg L=>i6 (h.lt g L) D.size,λK O=>?_,λK O=>?_,by rw [akv];exact h.nq,by rw [akw];exact h.nl,by rw [akx,akz];exact h.nm,by rw [aky];exact h.nt⟩
 .obtain⟨n,b⟩:=List.mem_iff_getElem?.1 O;by_cases e:n=i
  .subst e;rw [List.getElem?_set_self K6] at b;cases b;exact⟨bw.st,bw.lp,bw.ch,⟨pq,Z,pm⟩,bw.lk,bw.bg,bw.hs,bw.kb⟩
  .rw [List.getElem?_set_ne (λh=>e h.symm)] at b;obtain⟨f,k,z,⟨E,H,p3⟩,W⟩:=h.st K (gA b);refine⟨f.aw D (λa=>?_),k.aw D (λa=>?_),z.aw D (λa=>?_),⟨E,H,p3⟩,W⟩
   .rcases a with a|a|a|a|a|a
    .exact h.fM _ E a
    .exact(iY h.nq b o e) a
    .exact cY f Xm (by decide) a
    .exact lw u f a.symm
    .exact cY f r (by decide) a
    .exact lw v f a.symm
   .rcases a with a|a|a|a|a|a
    .exact h.fM _ H a
    .exact cY k Xl (by decide) a
    .exact(iY h.nl b o e) a
    .exact lw u k a.symm
    .exact cY k r (by decide) a
    .exact lw v k a.symm
   .rcases a with a|a|a|a|a|a
    .exact h.fM _ p3 a
    .exact lw z Xl a
    .exact lw z Xm a
    .exact(iY xz.1 b o e) a
    .exact lw z r a
    .exact(xz.2.2 K.m (List.mem_map_of_mem (gA b)) J.n (List.mem_map_of_mem (gA A))) a
 .obtain⟨n,b⟩:=List.mem_iff_getElem?.1 O;by_cases e:n=j
  .subst e;rw [List.getElem?_set_self C] at b;cases b;refine⟨{I with G:=G'},by rw [PX];exact List.getElem?_set_self K6,nU,nr,⟨pt,pn⟩,ph⟩
  .rw [List.getElem?_set_ne (λh=>e h.symm)] at b;obtain⟨M,Q,f,k,⟨E,H⟩,z⟩:=h.tx K (gA b);have R:=(D.block _ (aq f) (λa=>by
    rcases a with a|a|a|a|a|a
    .exact h.fM _ E a
    .exact cY f Xl (by decide) a
    .exact cY f Xm (by decide) a
    .exact lw u f a.symm
    .exact(iY h.nt b A e) a
    .exact lw v f a.symm)).trans f
   have U:=k.aw D (λa=>by
    rcases a with a|a|a|a|a|a
    .exact h.fM _ H a
    .exact lw k Xl a
    .exact lw k Xm a
    .exact(xz.2.2 I.m (List.mem_map_of_mem (gA o)) K.n (List.mem_map_of_mem (gA b))) a.symm
    .exact lw k r a
    .exact(iY xz.2.1 b A e) a)
   by_cases N:K.i=i
   .rw [N,o] at Q;cases Q;exact⟨{I with G:=G'},by rw [N];exact List.getElem?_set_self K6,R,U,⟨E,H⟩,by rw [show ({I with G:=G'}:PI).G=G' from rfl,Y];exact z⟩
   .exact⟨M,by rw [List.getElem?_set_ne (λh=>N h.symm)];exact Q,R,U,⟨E,H⟩,z⟩
end
end
section
structure RI where
 k:Nat
 kl:Nat
 pv:Value
 ps:List (Nat×List Int)
 hm:Nat
 nv:Value
 G:SG
structure RJ where
 i:Nat
 u:Nat
 tv:Value
 us:List (Nat×List Int)
 T:TG
structure RW (w:World) (F X:Nat->Prop) (r s:Nat) (S:DS) (ss:List RI) (ts:List RJ):Prop where
 e:aC w F r s S
 fM:∀g,X g->¬F g
 lt:∀g,X g->g<w.heap.size
 st:∀I∈ss,iL w F X r s S I.k I.kl I.G I.pv I.ps I.hm I.nv
 tx:∀J∈ts,∃I,ss[J.i]? =some I/\oj w X I.k J.u I.G J.T J.tv J.us
 nk:(ss.map (·.k)).Nodup
 nl:(ss.map (·.kl)).Nodup
 nu:(ts.map (·.u)).Nodup
 r1:∀(i i':Nat) (I I':RI),ss[i]? =some I->ss[i']? =some I'->i≠i'->∀g,I.pv.ownBlock=some g->I'.pv.ownBlock≠some g
 r2:∀(j j':Nat) (J J':RJ),ts[j]? =some J->ts[j']? =some J'->j≠j'->∀g,J.tv.ownBlock=some g->J'.tv.ownBlock≠some g
 r3:∀I∈ss,∀J∈ts,∀g,I.pv.ownBlock=some g->J.tv.ownBlock≠some g
def ng {f:α->Nat} {l:List α} {i:Nat} {a b:α} (c:l[i]? =some a) (h:f b=f a):(l.set i b).map f=l.map f:=by
 rw [List.map_set];apply List.ext_getElem?;intro n;by_cases e:n=i
 .subst e;rw [List.getElem?_set_self (by simpa using ((mP.1 c).1)),Bk,c,h];rfl
 .rw [List.getElem?_set_ne (λh=>e h.symm)]
def dr {l:List α} {i:Nat} {a b x:α} (d:l[i]? =some a) (c:(l.set i b)[n]? =some x):(n=i/\x=b)\/(n≠i/\l[n]? =some x):=by
 by_cases e:n=i
 .subst e;rw [List.getElem?_set_self ((mP.1 d).1)] at c;exact .inl ⟨rfl,(Option.some.inj c).symm⟩
 .rw [List.getElem?_set_ne (λh=>e h.symm)] at c;exact .inr ⟨e,c⟩
section
variable {w w':World} {F F' X X':Nat->Prop} {r s i j:Nat} {S S':DS} {ss:List RI} {ts:List RJ} {I I':RI} {J J':RJ}
def RW.aw (h:RW w F X r s S ss ts) (a:aa Z w w') (d:∀g,F g->¬Z g) (b:∀g,X g->¬Z g):RW w' F X r s S ss ts:=by
 refine⟨h.e.aw a d,h.fM,λg j=>i6 (h.lt g j) a.size,λI f=>(h.st I f).aw a b,λJ i=>?_,h.nk,h.nl,h.nu,h.r1,h.r2,h.r3⟩;obtain⟨I,k,c⟩:=h.tx J i;exact⟨I,k,c.aw a b⟩
def RW.later (h:RW w F X r s S ss ts) (a:bW w w'):RW w' F X r s S ss ts:=h.aw (aa.ah (λ_=>False) a) (λ_ _ h=>h) (λ_ _ h=>h)
def RW.jS (h:RW w F X r s S ss ts) (a:ss[i]? =some I):iL w F X r s S I.k I.kl I.G I.pv I.ps I.hm I.nv:=h.st I (gA a)
def RW.po (h:RW w F X r s S ss ts) (c:ts[j]? =some J) (b:ss[J.i]? =some I):oj w X I.k J.u I.G J.T J.tv J.us:=by
 obtain⟨I',nC,a⟩:=h.tx J (gA c);obtain rfl:I'=I:=Option.some.inj (nC.symm.trans b);exact a
def iL.other {e:Value} (h:iL w F X r s S k kl G e ps hm nv) (d:aa Z w w') (b:∀g,X g->X' g) (aaw:∀g,X' g->¬F' g) (bq:∀g,X' g->g<w'.heap.size) (f:¬Z k) (i:¬Z kl) (j:∀g,e.ownBlock=some g->¬Z g) (l:∀g c ys,X g->ay w 5 g c ys->¬Z g) (a:S'=S\/G.L.dead S'=true):iL w' F' X' r s S' k kl G e ps hm nv:=
   ⟨h.st.aw d f,h.lp.aw d i,(h.pl.aw d j l).mono b,b _ h.xk,b _ h.xl,aaw,bq,h.lk,h.bg,h.hs,h.lh,h.ov,h.hm,h.kb,λhd=>by
  rcases a with a|a
  .rw [a] at hd⊢;exact h.un hd
  .rw [a] at hd;cases hd⟩
def oj.other {G':SG} {tv:Value} {us:List (Nat×List Int)} (h:oj w X k u G T tv us) (b:aa Z w w') (a:∀g,X g->X' g) (d:G'.y=G.y) (e:¬Z u) (f:∀g,tv.ownBlock=some g->¬Z g) (i:∀g c ys,X g->ay w 5 g c ys->¬Z g):oj w' X' k u G' T tv us:=
   ⟨h.tx.aw b e,a _ h.xt,(h.pl.aw b f i).mono a,h.nd,h.pu,by rw [d];exact h.kb,h.Em⟩
def RW.on (h:RW w F X r s S ss ts) (m:ss[i]? =some I) (t:ts[j]? =some J) (PX:J.i=i) (Br:I'.k=I.k) (Up:I'.kl=I.kl) (hy:I'.G.y=I.G.y) (hu:J'.u=J.u) (Q:J'.i=J.i)
    (he:aC w' F' r s S') (U:∀g,X g->X' g) (_hX':∀g,X' g->more X w w' g) (bw:iL w' F' X' r s S' I'.k I'.kl I'.G I'.pv I'.ps I'.hm I'.nv) (nU:oj w' X' I'.k J'.u I'.G J'.T J'.tv J'.us)
    (xH:I'.pv.ownBlock=I.pv.ownBlock\/∀g,I'.pv.ownBlock=some g->w.heap.size<=g) (Z:J'.tv.ownBlock=J.tv.ownBlock\/∀g,J'.tv.ownBlock=some g->w.heap.size<=g) (Y:∀g,I'.pv.ownBlock=some g->J'.tv.ownBlock≠some g)
    (W:aa (λg=>F g\/g=I.k\/g=I.kl\/g=J.u\/I.pv.ownBlock=some g\/J.tv.ownBlock=some g) w w') (hS:S'=S\/∀n K,ss[n]? =some K->n≠i->K.G.L.dead S'=true):
  RW w' F' X' r s S' (ss.set i I') (ts.set j J'):=by
 have K6:=(mP.1 m).1;have q:=h.jS m;have v:=h.po t (by rw [PX];exact m);have z:∀g c ys,X g->ay w 5 g c ys->¬(F g\/g=I.k\/g=I.kl\/g=J.u\/I.pv.ownBlock=some g\/J.tv.ownBlock=some g):=λg c ys hg H d=>by
  have BA:=H;obtain⟨cur,x,_⟩:=BA;rcases d with d|d|d|d|d|d
  .exact h.fM g hg d
  .exact H.ne q.st (by decide) d
  .exact H.ne q.lp (by decide) d
  .exact H.ne v.tx (by decide) d
  .exact q.pl.ne d x (by decide) rfl
  .exact v.pl.ne d x (by decide) rfl
 have TK:∀{n:Nat} {K:RI},ss[n]? =some K->∀g,K.pv.ownBlock=some g->g<w.heap.size:=λC g e=>(h.jS C).pl.rlt g e;have Lq:∀{n:Nat} {K:RJ},ts[n]? =some K->∀g,K.tv.ownBlock=some g->g<w.heap.size:=λC g e=>by
  obtain⟨M,E,hT⟩:=h.tx _ (gA C);exact hT.pl.rlt g e
 have abh:∀g,I'.pv.ownBlock=some g->I.pv.ownBlock=some g\/w.heap.size<=g:=λg e=>xH.elim (λh=> .inl (h▸e)) (λh=> .inr (h g e));have abi:∀g,J'.tv.ownBlock=some g->J.tv.ownBlock=some g\/w.heap.size<=g:=λg e=>Z.elim (λh=> .inl (h▸e)) (λh=> .inr (h g e));refine⟨he,bw.fM,bw.lt,λK R=>?_,λK R=>?_,by rw [ng m Br];exact h.nk,by rw [ng m Up];exact h.nl,by rw [ng t hu];exact h.nu,λa b A B D x oJ g o p=>?_,λa b A B D x oJ g o p=>?_,λA hA B hB g o p=>?_⟩
 .obtain⟨n,C⟩:=List.mem_iff_getElem?.1 R;rcases dr m C with ⟨_,rfl⟩|⟨dM,Bv⟩
  .exact bw
  .have f:=h.jS Bv;refine f.other W U bw.fM bw.lt (λd=>?_) (λd=>?_) (λg e d=>?_) z (hS.imp id (λh=>h n K Bv dM))
   .rcases d with d|d|d|d|d|d
    .exact h.fM _ f.xk d
    .exact iY h.nk Bv m dM d
    .exact cY f.st q.lp (by decide) d
    .exact cY f.st v.tx (by decide) d
    .exact q.pl.ne d f.st (by decide) rfl
    .exact v.pl.ne d f.st (by decide) rfl
   .rcases d with d|d|d|d|d|d
    .exact h.fM _ f.xl d
    .exact cY f.lp q.st (by decide) d
    .exact iY h.nl Bv m dM d
    .exact cY f.lp v.tx (by decide) d
    .exact q.pl.ne d f.lp (by decide) rfl
    .exact v.pl.ne d f.lp (by decide) rfl
   .rcases d with d|d|d|d|d|d
    .exact h.fM _ (f.pl.row g e) d
    .exact f.pl.ne e q.st (by decide) d
    .exact f.pl.ne e q.lp (by decide) d
    .exact f.pl.ne e v.tx (by decide) d
    .exact h.r1 _ _ _ _ Bv m dM g e d
    .exact h.r3 K (gA Bv) J (gA t) g e d
 .obtain⟨n,C⟩:=List.mem_iff_getElem?.1 R;rcases dr t C with ⟨_,rfl⟩|⟨dM,Bv⟩
  .exact⟨I',by rw [Q,PX];exact List.getElem?_set_self K6,nU⟩
  .obtain⟨M,E,f⟩:=h.tx K (gA Bv);have zu:¬(F K.u\/K.u=I.k\/K.u=I.kl\/K.u=J.u\/I.pv.ownBlock=some K.u\/J.tv.ownBlock=some K.u):=λd=>by
    rcases d with d|d|d|d|d|d
    .exact h.fM _ f.xt d
    .exact cY f.tx q.st (by decide) d
    .exact cY f.tx q.lp (by decide) d
    .exact iY h.nu Bv t dM d
    .exact q.pl.ne d f.tx (by decide) rfl
    .exact v.pl.ne d f.tx (by decide) rfl
   have zr:∀g,K.tv.ownBlock=some g->¬(F g\/g=I.k\/g=I.kl\/g=J.u\/I.pv.ownBlock=some g\/J.tv.ownBlock=some g):=λg e d=>by
    rcases d with d|d|d|d|d|d
    .exact h.fM _ (f.pl.row g e) d
    .exact f.pl.ne e q.st (by decide) d
    .exact f.pl.ne e q.lp (by decide) d
    .exact f.pl.ne e v.tx (by decide) d
    .exact h.r3 I (gA m) K (gA Bv) g d e
    .exact h.r2 _ _ _ _ Bv t dM g e d
   by_cases P:K.i=i
   .rw [P,m] at E;cases E;exact⟨I',by rw [P];exact List.getElem?_set_self K6,by rw [Br];exact f.other W U hy zu zr z⟩
   .exact⟨M,by rw [List.getElem?_set_ne (λh=>P h.symm)];exact E,f.other W U rfl zu zr z⟩
 .rcases dr m D with ⟨_,rfl⟩|⟨N,EV⟩<;> rcases dr m x with ⟨_,rfl⟩|⟨O,eH⟩
  .omega
  .rcases abh g o with l|l
   .exact h.r1 _ _ _ _ m eH (λe=>O e.symm) g l p
   .have:=TK eH g p;omega
  .rcases abh g p with l|l
   .exact h.r1 _ _ _ _ EV m N g o l
   .have:=TK EV g o;omega
  .exact h.r1 _ _ _ _ EV eH oJ g o p
 .rcases dr t D with ⟨_,rfl⟩|⟨N,EV⟩<;> rcases dr t x with ⟨_,rfl⟩|⟨O,eH⟩
  .omega
  .rcases abi g o with l|l
   .exact h.r2 _ _ _ _ t eH (λe=>O e.symm) g l p
   .have:=Lq eH g p;omega
  .rcases abi g p with l|l
   .exact h.r2 _ _ _ _ EV t N g o l
   .have:=Lq EV g o;omega
  .exact h.r2 _ _ _ _ EV eH oJ g o p
 .obtain⟨a,D⟩:=List.mem_iff_getElem?.1 hA;obtain⟨b,x⟩:=List.mem_iff_getElem?.1 hB;rcases dr m D with ⟨_,rfl⟩|⟨N,EV⟩<;> rcases dr t x with ⟨_,rfl⟩|⟨O,eH⟩
  .exact Y g o p
  .rcases abh g o with l|l
   .exact h.r3 I (gA m) B (gA eH) g l p
   .have:=Lq eH g p;omega
  .rcases abi g p with l|l
   .exact h.r3 A (gA EV) J (gA t) g o l
   .have:=TK EV g o;omega
  .exact h.r3 A (gA EV) B (gA eH) g o p
end
end
section
def iJ {l:List Nat} {x:Nat} (h:l.Nodup) (f:x∉l):(l ++ [x]).Nodup:=by
 rw [List.nodup_append];exact⟨h,by simp,λa c b d e=>by
  have:b=x:=by simpa using d
  exact f (this▸e▸c)⟩
section
variable {w w':World} {F F' P:Nat->Prop} {p s c c' i:Nat} {S S':DS} {ss:List PI} {ts:List PT} {I:PI} {G':SG}
def PW.lN (h:PW w F P p s S c ss ts) (m:∀g,F' g->more F w w' g) (hd:B.ax w' F' p s S' c') (a:aa F w w'):PW w' F' P p s S' c' ss ts:=by
 refine⟨hd,λg f i=>?_,λg f=>i6 (h.lt g f) a.size,λI n=>?_,λJ o=>?_,h.nq,h.nl,h.nm,h.nt⟩
 .rcases m g i with i|i
  .exact h.fM g f i
  .have:=h.lt g f;omega
 .obtain⟨e,j,k,⟨b,d,p3⟩,l⟩:=h.st I n;exact⟨e.aw a (h.fM _ b),j.aw a (h.fM _ d),k.aw a (h.fM _ p3),⟨b,d,p3⟩,l⟩
 .obtain⟨I,q,e,j,⟨b,d⟩,k⟩:=h.tx J o;exact⟨I,q,(a.block _ (aq e) (h.fM _ b)).trans e,j.aw a (h.fM _ d),⟨b,d⟩,k⟩
def PW.onS (h:PW w F P p s S c ss ts) (j:ss[i]? =some I) (Q:G'.y=I.G.y) (O:∀g,F' g->more F w w' g) (bw:it w' F' p s c' I.q I.l I.m S' G') (u:aa (λg=>F g\/g=I.q\/g=I.l\/g=I.m) w w'):
  PW w' F' P p s S' c' (ss.set i {I with G:=G'}) ts:=by
 obtain⟨Xl,Xm,o,⟨U,R,T⟩,_⟩:=h.st I (gA j);have xz:=List.nodup_append.1 h.nm;refine⟨bw.d,λg D a=>?_,λg D=>i6 (h.lt g D) u.size,λK C=>?_,λK C=>?_,by rw [ng (f:=λx:PI=>x.q) (b:={I with G:=G'}) j rfl];exact h.nq,by rw [ng (f:=λx:PI=>x.l) (b:={I with G:=G'}) j rfl];exact h.nl,by rw [ng (f:=λx:PI=>x.m) (b:={I with G:=G'}) j rfl];exact h.nm,h.nt⟩
 .rcases O g a with a|a
  .exact h.fM g D a
  .have:=h.lt g D;omega
 .obtain⟨n,v⟩:=List.mem_iff_getElem?.1 C;rcases dr j v with ⟨_,rfl⟩|⟨e,v⟩
  .exact⟨bw.st,bw.lp,bw.ch,⟨U,R,T⟩,bw.lk,bw.bg,bw.hs,bw.kb⟩
  .obtain⟨k,r,t,⟨z,A,p3⟩,N⟩:=h.st K (gA v);refine⟨k.aw u (λa=>?_),r.aw u (λa=>?_),t.aw u (λa=>?_),⟨z,A,p3⟩,N⟩
   .rcases a with a|a|a|a
    .exact h.fM _ z a
    .exact iY h.nq v j e a
    .exact cY k Xm (by decide) a
    .exact lw o k a.symm
   .rcases a with a|a|a|a
    .exact h.fM _ A a
    .exact cY r Xl (by decide) a
    .exact iY h.nl v j e a
    .exact lw o r a.symm
   .rcases a with a|a|a|a
    .exact h.fM _ p3 a
    .exact lw t Xl a
    .exact lw t Xm a
    .exact iY xz.1 v j e a
 .obtain⟨M,H,k,r,⟨z,A⟩,t⟩:=h.tx K C;have J:=(u.block _ (aq k) (λa=>by
   rcases a with a|a|a|a
   .exact h.fM _ z a
   .exact cY k Xl (by decide) a
   .exact cY k Xm (by decide) a
   .exact lw o k a.symm)).trans k
  have L:=r.aw u (λa=>by
   rcases a with a|a|a|a
   .exact h.fM _ A a
   .exact lw r Xl a
   .exact lw r Xm a
   .exact(xz.2.2 I.m (List.mem_map_of_mem (gA j)) K.n (List.mem_map_of_mem C)) a.symm)
  by_cases E:K.i=i
  .rw [E,j] at H;cases H;exact⟨{I with G:=G'},by rw [E];exact List.getElem?_set_self ((mP.1 j).1),J,L,⟨z,A⟩,by rw [show ({I with G:=G'}:PI).G=G' from rfl,Q];exact t⟩
  .exact⟨M,by rw [List.getElem?_set_ne (λh=>E h.symm)];exact H,J,L,⟨z,A⟩,t⟩
def PW.push {q l m:Nat} (h:PW w F P p s S c ss ts) (z:∀g,F' g->more F w w' g) (bw:it w' F' p s c' q l m S' G') (G:w.heap.size<=q) (D:w.heap.size<=l) (E:w.heap.size<=m) (A:aa F w w'):
  PW w' F' (λg=>P g\/g=q\/g=l\/g=m) p s S' c' (ss ++ [⟨q,l,m,G'⟩]) ts:=by
 have hd:=h.lN z bw.d A;have old:∀{g},P g->g<w.heap.size:=λj=>h.lt _ j;have xz:=List.nodup_append.1 h.nm;refine⟨bw.d,λg j i=>?_,λg j=>?_,λK f=>?_,λK f=>?_,?_,?_,?_,h.nt⟩
 .rcases j with j|rfl|rfl|rfl
  .exact hd.fM g j i
  .exact bw.nq i
  .exact bw.nl i
  .exact bw.nm i
 .rcases j with j|rfl|rfl|rfl
  .exact hd.lt g j
  .exact bw.st.lt
  .exact bw.lp.lt
  .exact bw.ch.lt
 .rcases List.mem_append.1 f with f|f
  .obtain⟨o,r,t,⟨u,n,p3⟩,y⟩:=hd.st K f;exact⟨o,r,t,⟨.inl u, .inl n, .inl p3⟩,y⟩
  .rw [List.mem_singleton.1 f];exact⟨bw.st,bw.lp,bw.ch,⟨.inr (.inl rfl), .inr (.inr (.inl rfl)), .inr (.inr (.inr rfl))⟩,bw.lk,bw.bg,bw.hs,bw.kb⟩
 .obtain⟨M,v,o,r,⟨u,n⟩,t⟩:=hd.tx K f;exact⟨M,by rw [List.getElem?_append_left (mP.1 v).1];exact v,o,r,⟨.inl u, .inl n⟩,t⟩
 .rw [List.map_append];refine iJ h.nq (λi=>?_);obtain⟨K,f,e⟩:=List.mem_map.1 i;have:=old (h.st K f).2.2.2.1.1;simp only at e;omega
 .rw [List.map_append];refine iJ h.nl (λi=>?_);obtain⟨K,f,e⟩:=List.mem_map.1 i;have:=old (h.st K f).2.2.2.1.2.1;simp only at e;omega
 .rw [List.map_append,List.nodup_append];refine⟨iJ xz.1 (λi=>?_),xz.2.1,λa k b x=>?_⟩
  .obtain⟨K,f,e⟩:=List.mem_map.1 i;have:=old (h.st K f).2.2.2.1.2.2;simp only at e;omega
  .rcases List.mem_append.1 k with k|k
   .exact xz.2.2 a k b x
   .have C:a=m:=(by simpa using k);obtain⟨K,f,rfl⟩:=List.mem_map.1 x;obtain⟨M,_,_,_,⟨_,n⟩,_⟩:=h.tx K f;have:=old n;omega
def PW.abj {t:Nat} (h:PW w F P p s S c ss ts) (D:ss[i]? =some I) (nU:w.heap[t]? =some (.cells (BO I.q n ⟨[],0,false⟩) 98 (0,0))) (nr:Ch w n []) (E:¬P t) (v:¬P n) (z:¬F t) (y:¬F n):
  PW w F (λg=>P g\/g=t\/g=n) p s S c ss (ts ++ [⟨i,t,n,⟨[],0,false⟩⟩]):=by
 have xz:=List.nodup_append.1 h.nm;refine⟨h.d,λg f b=>?_,λg f=>?_,λK a=>?_,λK a=>?_,h.nq,h.nl,?_,?_⟩
 .rcases f with f|rfl|rfl
  .exact h.fM g f b
  .exact z b
  .exact y b
 .rcases f with f|rfl|rfl
  .exact h.lt g f
  .exact aq nU
  .exact nr.lt
 .obtain⟨o,r,u,⟨k,l,p3⟩,A⟩:=h.st K a;exact⟨o,r,u,⟨.inl k, .inl l, .inl p3⟩,A⟩
 .rcases List.mem_append.1 a with a|a
  .obtain⟨M,C,o,r,⟨k,l⟩,u⟩:=h.tx K a;exact⟨M,C,o,r,⟨.inl k, .inl l⟩,u⟩
  .rw [List.mem_singleton.1 a];exact⟨I,D,nU,nr,⟨.inr (.inl rfl), .inr (.inr rfl)⟩,λx b=>by cases b⟩
 .rw [List.map_append,<-List.append_assoc];refine iJ h.nm (λb=>?_);rcases List.mem_append.1 b with b|b
  .obtain⟨K,a,e⟩:=List.mem_map.1 b;have j:K.m=n:=e;exact v (j▸(h.st K a).2.2.2.1.2.2)
  .obtain⟨K,a,e⟩:=List.mem_map.1 b;obtain⟨M,_,_,_,⟨_,l⟩,_⟩:=h.tx K a;have j:K.n=n:=e;exact v (j▸l)
 .rw [List.map_append];refine iJ h.nt (λb=>?_);obtain⟨K,a,e⟩:=List.mem_map.1 b;obtain⟨M,_,_,_,⟨k,_⟩,_⟩:=h.tx K a;have j:K.t=t:=e;exact E (j▸k)
end
end
section
section
variable {w w':World} {F F' X X' X2:Nat->Prop} {r s i j:Nat} {S S':DS} {ss:List RI} {ts:List RJ} {I I':RI} {J J':RJ}
def iL.nB {j:Value} (h:iL w F X r s S k kl G j ps hm nv) (d:aa F w w') (n:∀g,F' g->more F w w' g) (o:G.L.dead S'=false->G.L.dead S=false/\∀b,b<G.y.blocks->S'.now (G.y.home+b)=S.now (G.y.home+b)):iL w' F' X r s S' k kl G j ps hm nv:=
   ⟨h.st.aw d (h.fM _ h.xk),h.lp.aw d (h.fM _ h.xl),h.pl.aw d (λg e=>h.fM _ (h.pl.row g e)) (λg _ _ f _=>h.fM g f),h.xk,h.xl,λg a f=>(n g f).elim (h.fM g a) (λf=>by have:=h.lt g a;omega),λg a=>i6 (h.lt g a) d.size,h.lk,h.bg,h.hs,h.lh,h.ov,h.hm,h.kb,λhd b i a c p=>by
  obtain⟨l,m⟩:=o hd;rw [m b i];exact h.un l b i a c p⟩
def RW.lN (h:RW w F X r s S ss ts) (d:∀g,F' g->more F w w' g) (l:aC w' F' r s S') (c:aa F w w') (k:∀I∈ss,I.G.L.dead S'=false->I.G.L.dead S=false/\∀b,b<I.G.y.blocks->S'.now (I.G.y.home+b)=S.now (I.G.y.home+b)):RW w' F' X r s S' ss ts:=by
 refine⟨l,λg a f=>(d g f).elim (h.fM g a) (λf=>by have:=h.lt g a;omega),λg a=>i6 (h.lt g a) c.size,λI e=>(h.st I e).nB c d (k I e),λJ j=>?_,h.nk,h.nl,h.nu,h.r1,h.r2,h.r3⟩;obtain⟨I,m,i⟩:=h.tx J j;exact⟨I,m,i.aw c h.fM⟩
def RW.onS (h:RW w F X r s S ss ts) (j:ss[i]? =some I) (Br:I'.k=I.k) (Up:I'.kl=I.kl) (W:I'.G.y=I.G.y)
    (R:aC w' F' r s S') (bw:iL w' F' X r s S' I'.k I'.kl I'.G I'.pv I'.ps I'.hm I'.nv) (xH:I'.pv=I.pv)
    (z:aa (λg=>F g\/g=I.k\/g=I.kl) w w') (P:S'=S\/∀n K,ss[n]? =some K->n≠i->K.G.L.dead S'=true):
  RW w' F' X r s S' (ss.set i I') ts:=by
 have l:=h.jS j;have m:∀g c H,X g->ay w 5 g c H->¬(F g\/g=I.k\/g=I.kl):=λg c H T D d=>by
  rcases d with d|d|d
  .exact h.fM g T d
  .exact D.ne l.st (by decide) d
  .exact D.ne l.lp (by decide) d
 refine⟨R,bw.fM,bw.lt,λK t=>?_,λK t=>?_,by rw [ng j Br];exact h.nk,by rw [ng j Up];exact h.nl,h.nu,λa b A B x Q oJ g o p=>?_,h.r2,λA O B C g o p=>?_⟩
 .obtain⟨n,U⟩:=List.mem_iff_getElem?.1 t;rcases dr j U with ⟨_,rfl⟩|⟨dM,Bv⟩
  .exact bw
  .have f:=h.jS Bv;refine f.other z (λ_ h=>h) bw.fM bw.lt (λd=>?_) (λd=>?_) (λg e d=>?_) m (P.imp id (λh=>h n K Bv dM))
   .rcases d with d|d|d
    .exact h.fM _ f.xk d
    .exact iY h.nk Bv j dM d
    .exact cY f.st l.lp (by decide) d
   .rcases d with d|d|d
    .exact h.fM _ f.xl d
    .exact cY f.lp l.st (by decide) d
    .exact iY h.nl Bv j dM d
   .rcases d with d|d|d
    .exact h.fM _ (f.pl.row g e) d
    .exact f.pl.ne e l.st (by decide) d
    .exact f.pl.ne e l.lp (by decide) d
 .obtain⟨M,v,f⟩:=h.tx K t;have N:¬(F K.u\/K.u=I.k\/K.u=I.kl):=λd=>by
   rcases d with d|d|d
   .exact h.fM _ f.xt d
   .exact cY f.tx l.st (by decide) d
   .exact cY f.tx l.lp (by decide) d
  have J:∀g,K.tv.ownBlock=some g->¬(F g\/g=I.k\/g=I.kl):=λg e d=>by
   rcases d with d|d|d
   .exact h.fM _ (f.pl.row g e) d
   .exact f.pl.ne e l.st (by decide) d
   .exact f.pl.ne e l.lp (by decide) d
  by_cases q:K.i=i
  .rw [q,j] at v;cases v;exact⟨I',by rw [q];exact List.getElem?_set_self ((mP.1 j).1),by rw [Br];exact f.other z (λ_ h=>h) W N J m⟩
  .exact⟨M,by rw [List.getElem?_set_ne (λh=>q h.symm)];exact v,f.other z (λ_ h=>h) rfl N J m⟩
 .rcases dr j x with ⟨_,rfl⟩|⟨E,EV⟩<;> rcases dr j Q with ⟨_,rfl⟩|⟨Y,eH⟩
  .omega
  .exact h.r1 _ _ _ _ j eH (λe=>Y e.symm) g (xH▸o) p
  .exact h.r1 _ _ _ _ EV j E g o (xH▸p)
  .exact h.r1 _ _ _ _ EV eH oJ g o p
 .obtain⟨a,x⟩:=List.mem_iff_getElem?.1 O;rcases dr j x with ⟨_,rfl⟩|⟨E,EV⟩
  .exact h.r3 I (gA j) B C g (xH▸o) p
  .exact h.r3 A (gA EV) B C g o p
def RW.push (h:RW w F X r s S ss ts) (z:∀g,F' g->more F w w' g) (MF:∀g,X2 g->w.heap.size<=g) (t:aC w' F' r s S') (bw:iL w' F' X2 r s S' I.k I.kl I.G I.pv I.ps I.hm I.nv) (xH:I.pv.ownBlock=none) (H:aa F w w') (C:∀K∈ss,K.G.L.dead S'=true):
  RW w' F' (λg=>X g\/X2 g) r s S' (ss ++ [I]) ts:=by
 have hd:=h.lN z t H (λK c i=>by rw [C K c] at i;cases i);have B5:∀g,(X g\/X2 g)->¬F' g:=λg o=>o.elim (hd.fM g) (bw.fM g);have d:∀g,(X g\/X2 g)->g<w'.heap.size:=λg o=>o.elim (hd.lt g) (bw.lt g);have N:∀{K:RI},iL w' F' X r s S' K.k K.kl K.G K.pv K.ps K.hm K.nv->iL w' F' (λg=>X g\/X2 g) r s S' K.k K.kl K.G K.pv K.ps K.hm K.nv:=λg=>⟨g.st,g.lp,g.pl.mono (λ_ h=> .inl h), .inl g.xk, .inl g.xl,B5,d,g.lk,g.bg,g.hs,g.lh,g.ov,g.hm,g.kb,g.un⟩;refine⟨t,B5,d,λK c=>?_,λK c=>?_,?_,?_,h.nu,λa b A B D E oJ g f m=>?_,h.r2,λA j B y g f m=>?_⟩
 .rcases List.mem_append.1 c with c|c
  .exact N (hd.st K c)
  .rw [List.mem_singleton.1 c];exact⟨bw.st,bw.lp,bw.pl.mono (λ_ h=> .inr h), .inr bw.xk, .inr bw.xl,B5,d,bw.lk,bw.bg,bw.hs,bw.lh,bw.ov,bw.hm,bw.kb,bw.un⟩
 .obtain⟨M,q,g⟩:=hd.tx K c;exact⟨M,by rw [List.getElem?_append_left (mP.1 q).1];exact q,g.mono (λ_ h=> .inl h)⟩
 .rw [List.map_append];refine iJ h.nk (λi=>?_);obtain⟨K,c,e⟩:=List.mem_map.1 i;have u:K.k=I.k:=e;have v:=h.lt _ (h.st K c).xk;have x:=MF _ bw.xk;omega
 .rw [List.map_append];refine iJ h.nl (λi=>?_);obtain⟨K,c,e⟩:=List.mem_map.1 i;have u:K.kl=I.kl:=e;have v:=h.lt _ (h.st K c).xl;have x:=MF _ bw.xl;omega
 .have l:∀{n:Nat} {A:RI},(ss ++ [I])[n]? =some A->A.pv.ownBlock=some g->ss[n]? =some A:=λ{n A} p e=>by
   by_cases J:n<ss.length
   .rwa [List.getElem?_append_left J] at p
   .rw [List.getElem?_append_right (by omega)] at p;have:A=I:=by
     have:=gA p;simpa using this
    rw [this,xH] at e;cases e
  exact h.r1 _ _ _ _ (l D f) (l E m) oJ g f m
 .rcases List.mem_append.1 j with j|j
  .exact h.r3 A j B y g f m
  .rw [List.mem_singleton.1 j,xH] at f;cases f
def RW.abj (h:RW w F X r s S ss ts) (E:ss[i]? =some I) (nU:nw w u I.k (.slice none 0 0) ⟨[],0,false⟩) (H:¬X u) (y:¬F u):
  RW w F (λg=>X g\/g=u) r s S ss (ts ++ [⟨i,u, .slice none 0 0, [],⟨[],0,false⟩⟩]):=by
 have B5:∀g,(X g\/g=u)->¬F g:=λg o=>o.elim (h.fM g) (λe=>e▸y);have l:∀g,(X g\/g=u)->g<w.heap.size:=λg o=>o.elim (h.lt g) (λe=>e▸nU.lt);refine⟨h.e,B5,l,λK c=>?_,λK c=>?_,h.nk,h.nl,?_,h.r1,λa b A B C D oJ g m d=>?_,λA z B f g m d=>?_⟩
 .have g:=h.st K c;exact⟨g.st,g.lp,g.pl.mono (λ_ h=> .inl h), .inl g.xk, .inl g.xl,B5,l,g.lk,g.bg,g.hs,g.lh,g.ov,g.hm,g.kb,g.un⟩
 .rcases List.mem_append.1 c with c|c
  .obtain⟨M,t,g⟩:=h.tx K c;exact⟨M,t,g.mono (λ_ h=> .inl h)⟩
  .rw [List.mem_singleton.1 c];exact⟨I,E,⟨nU, .inr rfl,Pl.nil _ _,List.nodup_nil,λ_=>rfl,λx q=>(by cases q),dV _⟩⟩
 .rw [List.map_append];refine iJ h.nu (λq=>?_);obtain⟨K,c,e⟩:=List.mem_map.1 q;have v:K.u=u:=e;obtain⟨M,t,g⟩:=h.tx K c;exact H (v▸g.xt)
 .have j:∀{n:Nat} {A:RJ},(ts ++ [⟨i,u, .slice none 0 0, [],⟨[],0,false⟩⟩])[n]? =some A->A.tv.ownBlock=some g->ts[n]? =some A:=λ{n A} p e=>by
   by_cases G:n<ts.length
   .rwa [List.getElem?_append_left G] at p
   .rw [List.getElem?_append_right (by omega)] at p;have:A=⟨i,u, .slice none 0 0, [],⟨[],0,false⟩⟩:=by
     have:=gA p;simpa using this
    rw [this] at e;simp [Value.ownBlock] at e
  exact h.r2 _ _ _ _ (j C m) (j D d) oJ g m d
 .rcases List.mem_append.1 f with f|f
  .exact h.r3 A z B f g m d
  .rw [List.mem_singleton.1 f] at d;simp [Value.ownBlock] at d
end
end
def IY (n:Int) (i:Nat):Int:=if i%7=3 then IntKind.u8.wrap (n / 256) else IntKind.u8.wrap n
def IZ (n:Int):List Int:=(List.range 512).map (IY n)
def uT (n:Int):(IZ n).length=512:=by simp [IZ]
def B8 (n:Int) (k:Nat):List Int:=(List.range k).map (IY n) ++ List.replicate (512-k) 0
def Uj (n:Int) (h:k<=512):(B8 n k).length=512:=by simp [B8];omega
def Uk (n:Int) (h:k<512):(B8 n k).set k (IY n k)=B8 n (k+1):=by
 unfold B8;rw [List.set_append_right _ _ (by simp),List.range_succ,List.map_append,List.append_assoc];congr 1;simp only [List.length_map,List.length_range,Nat.sub_self];rw [show 512-k=(512-(k+1))+1 by omega,List.replicate_succ];rfl
def Ul (n:Int):B8 n 512=IZ n:=by simp [B8,IZ]
def Pt (n:Int) (w:World):
  Calls prog 133 #[iV n] w λe w'=>e= .returned (.slice (some (aD w.heap.size 0)) 512 512)/\ay w' 5 w.heap.size 512 (bs (IZ n))/\bW w w':=by
 obtain⟨p,o,gC,dE,ev⟩:=info_parts gh;go_in;go_wp2_with (at_make;refine wpList_make_full _ rfl _ _ 36 rfl w.heap.size 5 p (.int .u8 0) 1 underlying36 o gC dE _ _ _ _ 512 rfl rfl (by omega) (by omega) (by rw [ev];omega) (by unfold maxLen;omega) (bS _) ?_);intro w1 aA aR;have f:=(bi _ w).grown aR (bS _) (by intro k c;cases c);have g:Full w1 w.heap.size (B8 n 0):=(lW aA).full (by simp [bs]);have l:=g;have j:=f;clear aA aR g f;go_wp2;go_loopw [4] (λi wr=>∃k:Nat,k<=512/\i=iV (k:Int)/\Full wr w.heap.size (B8 n k)/\bW w wr) (λi _=>512-(intOf i).toNat);case atStart=>exact⟨0,by omega,rfl,l,j⟩
 case round=>
  obtain⟨k,c,rfl,wJ,ew⟩:=hrel;by_cases q:k<512
  .have r:(k:Int)<512:=(by omega);have s:=wJ.cell (i:=k) (by rw [Uj n c];exact q);have u:=wJ.frozen k;have t:(k:Int).tmod 7=((k%7:Nat):Int):=(by rw [Int.tmod_eq_emod_of_nonneg (by omega)];omega);have My:=wJ;have mm:=ew;have d:=Uk n q;clear wJ ew;by_cases b:k%7=3
   .have m:(((k%7:Nat):Int) == 3)=true:=(by rw [b];rfl);have YF:IY n k=IntKind.u8.wrap (n / 256):=(by unfold IY;rw [aG b]);have a:=YF;clear YF b;go_wp2;go_roundw;case rel=>exact⟨k+1,by omega,by go_num,by rw [<-d,a,<-Dc (B8 n k) k (n%256)];exact(My.set k _).set k _,(mm.setCell (bS _) _).setCell (bS _) _⟩
    case measure=>simp [intOf];omega
   .have m:(((k%7:Nat):Int) == 3)=false:=(by rw [fJ];omega);have YF:IY n k=IntKind.u8.wrap n:=(by unfold IY;rw [aB b]);have a:=YF;clear YF b;go_wp2;go_roundw;case rel=>exact⟨k+1,by omega,by go_num,by rw [<-d,a];exact My.set k _,mm.setCell (bS _) _⟩
    case measure=>simp [intOf];omega
  .have r:¬(k:Int)<512:=(by omega);obtain rfl:k=512:=(by omega);rw [Ul] at wJ;have My:=wJ;have mm:=ew;clear wJ ew;go_wp2;go_ret;exact⟨rfl,by have:=ay.EN My (by rw [uT];omega);rwa [uT] at this,mm⟩
def LX (n:Int):Bytes (IZ n):=λx c=>by
 unfold IZ at c;obtain⟨i,_,rfl⟩:=List.mem_map.1 c;unfold IY;split
 .have a:0<=n / 256%256:=Int.emod_nonneg _ (by decide);have b:n / 256%256<256:=Int.emod_lt_of_pos _ (by decide);exact⟨a,b⟩
 .have a:0<=n%256:=Int.emod_nonneg _ (by decide);have b:n%256<256:=Int.emod_lt_of_pos _ (by decide);exact⟨a,b⟩
abbrev j3 (kd ag A B:Int) (da:Option Addr) (dn dc:Nat) (pa:Option Addr) (pn pc:Nat) (x y z:Int):Array Value:= #[iV kd,iV ag,iV A,iV B, .slice da dn dc, .slice pa pn pc,iV x,iV y,iV z]
def lx (B:Int) (d:List Int):List Int:=if d.length=0/\B≠0 then IZ B else d
def lO (o m A B:Int) (i:Option Addr) (a k:Nat) (p:Option Addr) (s r:Nat) (x y z:Int) (d:List Int) (w:World) (n:Src w i a d) (E:a<=140737488355328):
  Calls prog 80 #[.agg (j3 o m A B i a k p s r x y z)] w λe w'=>∃g,e= .returned (.slice (some (aD g 0)) (lx B d).length (lx B d).length)/\w.heap.size<=g/\ay w' 5 g (lx B d).length (bs (lx B d))/\bW w w':=by
 have t:=n.1;obtain⟨W,b⟩:=bQ (w.alloc (.cells (j3 o m A B i a k p s r x y z) 41));have EU:bW w W:=by rw [b];exact(bi w.heap.size w).alloc (bS _) _
 have B4:W.heap[w.heap.size]? =some (.cells (j3 o m A B i a k p s r x y z) 41 (0,0)):=by rw [b];exact heap_alloc_new _ _
 have G:W.cell? (aD w.heap.size 3)=some (iV B):=fQ B4;have H:W.cell? (aD w.heap.size 4)=some (.slice i a k):=gH B4;have l:=tF i a k d W E (n.later EU);have C3:=EU;have Ie:W.heap.size=w.heap.size+1:=by rw [b,World.size_alloc]
 unfold lx;clear n EU B4;by_cases q:d.length=0/\B≠0
 .rw [aG q,uT];obtain⟨u,v⟩:=q;obtain rfl:a=0:=by omega
  have C:(B != 0)=true:=by rw [gB];exact v
  clear v l;go_in;go_wp2_with fail;try rw [<-b]
  try clear b
  try go_wp2_with fail
  refine(Pt B W).mono ?_;rintro e w1 ⟨rfl,f,c⟩;have j:=(aH f (C3.trans (c.mono (by omega))));clear f c;go_wp2;go_ret;exact⟨w.heap.size+1,rfl,by omega,by rw [<-Ie];exact j⟩
 .rw [aB q,t];by_cases u:a=0
  .subst u;have C:(B != 0)=false:=(by rw [bne_eq_false_iff_eq];exact Decidable.byContradiction (λh=>q ⟨t,h⟩));clear q;go_in;go_wp2_with fail;try rw [<-b]
   try clear b
   try go_wp2_with fail
   refine l.mono ?_;rintro e w1 ⟨g,rfl,D,f,c⟩;have j:=(aH f (C3.trans (c.mono (by omega))));clear l f c;go_wp2;go_ret;exact⟨g,rfl,by omega,j⟩
  .have F:((a:Int) == 0)=false:=(by rw [fJ];omega);clear q;go_in;go_wp2_with fail;try rw [<-b]
   try clear b
   try go_wp2_with fail
   refine l.mono ?_;rintro e w1 ⟨g,rfl,D,f,c⟩;have j:=(aH f (C3.trans (c.mono (by omega))));clear l f c;go_wp2;go_ret;exact⟨g,rfl,by omega,j⟩
end Go.Proofs.YtcpdggdfihjhoaaGreat
