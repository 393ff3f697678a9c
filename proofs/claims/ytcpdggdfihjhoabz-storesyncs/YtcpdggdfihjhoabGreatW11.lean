import Derived.Test.YtcpdggdfihjhoabGreatW01
import Derived.Test.YtcpdggdfihjhoabGreatW08
import Derived.Test.YtcpdggdfihjhoabGreatW09
import Derived.Test.YtcpdggdfihjhoabGreatW10
set_option maxRecDepth 20000
set_option maxHeartbeats 8000000
set_option linter.all false
namespace Go.Proofs.YtcpdggdfihjhoabGreat
open Go.Proofs.Tryz
open Go.RowKit Go.Maps
variable {ov:CM} {S':DS} {f x:Int} {L:LG} {y:LY} {rs:List (List Int)} {ps:List (Nat×List Int)} {d l:List Int} {E P a c g hd hm i j k kl n u:Nat} {R:Nat->PC} {F7 Z:Nat->Prop} {G:SG} {T:TG} {α:Type} {e:TypeId} {nv v:Value} {W:World}
section
section
variable {w w':World} {F G:Nat->Prop} {r s k:Nat} {S:DS} {L:LG}
def aeS (w w':World) (R:Nat->PC) (E P:Nat) (v:Value) (n:Int):Prop:=
   (∃c d,Rec R E P c d/\n=(c:Int)/\Own w' w.heap.size v d)\/(n=0/\v= .slice none 0 0/\∀c d,¬Rec R E P c d)
def Tc (h:(R P).d= []):∀c d,¬Rec R E P c d:=λc d a=>by
 have:=(a.2.2.1 0 (by have:=a.1;omega)).2.2.2.2.1;rw [Nat.add_zero,h] at this;simp at this
def EI (h:(R P).c<1\/17<(R P).c):∀c d,¬Rec R E P c d:=λc d a=>by
 have:=a.count;have:=a.1;have:=a.2.1;omega
def Ib (b:i<(R P).c) (h:¬(R (P+i)).ok E (P+i) i (R P).c):∀c d,¬Rec R E P c d:=λc d a=>by
 rw [a.count] at b h;exact h (a.2.2.1 i b)
def WO (E P:Nat) (h:aC w F r s S) (y:cK w k r L) (OR:S.fL) (hs:L.f+2+L.n<=s) (jk:1<=L.n) (aU:S.puts.length+1<=4000000000000) (hE:E<=1073741824) (hP:P<=2147483648):
  Calls prog 163 #[pQ k,iV (E:Int),iV (P:Int)] w λe w'=>∃v n,e= .returned (.tuple #[v,iV n])/\aeS w w' (Rp (dZ S L.f) L.n) E P v n/\bW w w':=by
 have Ml:=h.ok.hi;have W:P%L.n<L.n:=Nat.mod_lt _ jk;have ml:=bu h.ok (L.f+2+P%L.n) (by omega);have dD:=OR.now (L.f+2+P%L.n);obtain⟨u,K,O,Q⟩:=cO (jM (h.later (ai (bi w.heap.size w))) (L.f+2+P%L.n) (by omega) (by omega)) y.c0 y.c2 y.c3;have UL:Rp (dZ S L.f) L.n P=dj (S.now (L.f+2+P%L.n)):=rfl;have a:=(λ(wx:World) (i c:Nat) (hb:bW w wx) (hi:i<=17) (hc:c<=65536) (A4:1<=c)=>ON E (P+i) i c (h.later hb) (y.later hb) (OR.now _) hs jk aU (by omega) (by omega) (by omega) hc A4);have wH:(P:Int).tmod (L.n:Int)=((P%L.n:Nat):Int):=by rw [Int.tmod_eq_emod_of_nonneg (by omega),<-Int.natCast_emod]
 have Sj:(P:Int)%(L.n:Int)=((P%L.n:Nat):Int):=by rw [<-Int.natCast_emod]
 have og:=(kh dD).2.2.2.1;obtain⟨M,hM⟩:=bQ (P%L.n);rw [<-hM] at wH Sj W u ml dD UL og;rw [show ((L.f+2+M:Nat):Int)=(L.f:Int)+2+(M:Int) by omega] at u;have xZ:IntKind.i64.wrap ((L.f:Int)+2)=(L.f:Int)+2:=by rw [IntKind.wrap_i64];omega
 have aeK:IntKind.i64.wrap ((L.f:Int)+2+(M:Int))=(L.f:Int)+2+(M:Int):=by rw [IntKind.wrap_i64];omega
 have aeL:¬L.n=0:=by omega
 have x:∀q,dj (S.now (L.f+2+q%L.n))=Rp (dZ S L.f) L.n q:=λq=>rfl;simp only [x] at a;clear hM h y x;generalize S.now (L.f+2+M)=l at*;have U:∀q,(Rp (dZ S L.f) L.n q).d.length<=492:=λq=>(kh (OR.now _)).2.2.2.2.1;generalize Rp (dZ S L.f) L.n=R at*;have hlen:=DW l;have gW:=pR dD;go_in;go_wp2_with fail;go_region_held3 (λw'=>w'.cell? (aD k 0)=some (pQ r)/\w'.cell? (aD k 2)=some (iV (L.f:Int))/\w'.cell? (aD k 3)=some (iV (L.n:Int)))
  (first|exact⟨K,O,Q⟩)
    ((go_at_call 69;refine u.mono ?_;rintro e w1 ⟨g,cg,rfl,hFg,be,bO⟩;have jO:=bO.symm;clear bO;subst jO))
 have ie:=be.src;rw [ml] at ie;have m:=qP (some (aD g 0)) 512 cg l w.drew ie dD;by_cases G:(aX l).2=0
 .rw [G] at m;clear u be ie K O Q;go_wp2_with fail;by_cases k2:(aX l).1.length<=12
  .have sW:=(show∀c d,¬Rec R E P c d from Tc (by rw [UL];exact ym (.inr k2)));have d2:((aX l).1.length:Int)<=12:=(by omega);clear k2 a UL;refine m.mono ?_;rintro e A ⟨X,rfl,jv,bd⟩;obtain⟨p,rG,rfl,bo,_,_⟩:=jv.src;have dP:=(ai (bi w.heap.size w)).trans bd;clear m bd jv bo;go_wp2;go_ret2;exact⟨_,_,rfl, .inr ⟨rfl,rfl,sW⟩,dP⟩
  .have nj:=vK G (by omega);have d2:¬((aX l).1.length:Int)<=12:=(by omega);by_cases H:(dj l).c<1\/17<(dj l).c
   .have sW:=(show∀c d,¬Rec R E P c d from EI (by rw [UL];exact H));refine m.mono ?_;rintro e A ⟨X,rfl,jv,bd⟩;obtain⟨p,rG,rfl,bo,_,_⟩:=jv.src;have dP:=(ai (bi w.heap.size w)).trans bd;have b:=bC p _ rG _ A bo gW 10 2 (by omega) (by omega) (by omega);rw [<-nj.2.2.2.1,show (((10:Nat)):Int)=10 from rfl,show (((2:Nat)):Int)=2 from rfl] at b;clear m bd jv bo nj;go_wp2_with fail;refine bM b λw3 eG=>?_;have eW:=eG.symm;clear eG b;subst eW;by_cases k4:(dj l).c<1
    .have T:((dj l).c:Int)<1:=(by omega);clear H a UL;go_wp2;go_ret2;exact⟨_,_,rfl, .inr ⟨rfl,rfl,sW⟩,dP⟩
    .have T:¬((dj l).c:Int)<1:=(by omega);have d5:(17:Int)<((dj l).c:Int):=(by omega);clear H a UL;go_wp2;go_ret2;exact⟨_,_,rfl, .inr ⟨rfl,rfl,sW⟩,dP⟩
   .have T:¬((dj l).c:Int)<1:=(by omega);have d5:¬(17:Int)<((dj l).c:Int):=(by omega);have o:(R P).c=(dj l).c:=(by rw [UL]);refine m.mono ?_;rintro e A ⟨X,rfl,jv,bd⟩;obtain⟨p,rG,rfl,bo,_,_⟩:=jv.src;have dP:=(ai (bi w.heap.size w)).trans bd;have b:=bC p _ rG _ A bo gW 10 2 (by omega) (by omega) (by omega);rw [<-nj.2.2.2.1,show (((10:Nat)):Int)=10 from rfl,show (((2:Nat)):Int)=2 from rfl] at b;clear m bd jv bo nj;go_wp2_with fail;refine bM b λw3 eG=>?_;have eW:=eG.symm;clear eG b;subst eW;obtain⟨C,hC⟩:=bQ ((dj l).c);rw [<-hC] at T d5 o H⊢;have WP:=o;clear o hC UL;go_wp2;go_loopw [12,13] (λv i wr=>∃j:Nat,j<=C/\i=iV (j:Int)/\(∀t,t<j->(R (P+t)).ok E (P+t) t C)/\Own wr w.heap.size v (ld R P j)/\(ld R P j).length<=492*j/\bW w wr) (λ_ i _=>C-(intOf i).toNat);case atStart=>exact⟨0,dV _,rfl,λt ht=>by omega,by rw [mw];exact Own.nil _ _,by rw [mw];simp,dP⟩
    case round=>
     obtain⟨j,hj,rfl,bV,aA,qN,ev⟩:=hrel;obtain⟨bt,I,OS,hz⟩:=cO aA ev bV ev.size;clear aA ev bV;by_cases bq:j<C
     .have cC:(j:Int)<(C:Int):=(by omega);have D:=a wr j C I (by omega) (by omega) (by omega);rw [show ((P+j:Nat):Int)=(P:Int)+(j:Int) by omega] at D;go_wp2_with fail;refine D.mono ?_;rintro e w4 ⟨v4,rfl,UJ,fw⟩;have rB:=I.trans (fw.mono hz);have wk:=fw.size;rcases UJ with ⟨du,body,z,kt,Vz,aeU⟩|⟨i9,rfl⟩
      .obtain⟨a4,Z,rfl,Ej,lg,_⟩:=z.src;obtain⟨Y,o4,rfl⟩:=cX Ej (by omega);have XQ:Src w4 (some ⟨Y,o4+12,none⟩) (body.length-12) ((R (P+j)).d):=by
        have:=Ej.sub 12 (body.length-12) (by omega);rwa [nr (by simp),kt] at this
       have jG:=U (P+j);have Kg:(R (P+j)).d.length=body.length-12:=(by rw [<-kt];simp);obtain⟨x5,w5,bD,rP,fa⟩:=ri (B:=w.heap.size) (bt.later fw) (Z-12) XQ (by omega) (by omega) (by omega);obtain⟨nJ,J,jq,Px⟩:=cO bD rP ((rB.trans fa)) du;obtain⟨N,b⟩:=bQ body.length;rw [<-b] at Vz aeU lg nJ Kg⊢;have jk:¬(N:Int)=0:=(by omega);have xU:((N:Int) == 0)=false:=(by rw [fJ];omega);have Wf:(12:Int)<=(N:Int):=(by omega);clear D du z kt Ej XQ bD rP fa fw rB b;go_wp2_with (at_builtin;refine br rfl _ _ 22 rfl u12 (.slice (some ⟨Y,o4+12,none⟩) (N-12) (Z-12)) _ rfl rfl nJ ?_);go_wp2;go_roundw;case rel=>
        refine⟨j+1,by omega,by go_num,λt ht=>?_,by rw [iB];exact J,by rw [iB,ed];omega,jq⟩;by_cases e:t=j
        .subst e;exact Px
        .exact OS t (by omega)
       case measure=>simp [intOf];omega
      .have sW:=(show∀c d,¬Rec R E P c d from Ib (by rw [WP];exact bq) (by rw [WP];exact i9));have jU:=rB;clear i9 fw rB D;go_wp2;go_ret2;exact⟨_,_,rfl, .inr ⟨rfl,rfl,sW⟩,jU⟩
     .obtain rfl:j=C:=(by omega);have wj:¬(j:Int)<(j:Int):=(by omega);go_wp2;go_ret2;exact⟨_,_,rfl, .inl ⟨_,_,(show Rec R E P j (ld R P j) from ⟨by omega,by omega,OS,rfl⟩),rfl,bt⟩,I⟩
 .have sW:=(show∀c d,¬Rec R E P c d from Tc (by rw [UL];exact ym (.inl G)));have d1':(((aX l).2:Int) != 0)=true:=by rw [gA];omega
  clear G a UL;clear u be ie K O Q;go_wp2_with fail;refine m.mono ?_;rintro e A ⟨X,rfl,jv,bd⟩;obtain⟨p,rG,rfl,bo,_,_⟩:=jv.src;have dP:=(ai (bi w.heap.size w)).trans bd;clear m bd jv bo;go_wp2;go_ret2;exact⟨_,_,rfl, .inr ⟨rfl,rfl,sW⟩,dP⟩
end
end
section
def OT (h:(aX l).2≠0\/(aX l).1.length<12):(dj l).e=0:=by
 unfold dj;rw [aG h];rfl
def OU (h:(R j).e<1\/1073741824<(R j).e\/(R j).e<=max E (gN R j)):max E (gN R (j+1))=max E (gN R j):=by
 show max E (if (R j).e<=1073741824 then max (gN R j) (R j).e else gN R j)=_;split <;> omega
def OV (h:(R j).e<=1073741824) (a:max E (gN R j)<(R j).e):max E (gN R (j+1))=(R j).e:=by
 show max E (if (R j).e<=1073741824 then max (gN R j) (R j).e else gN R j)=_;rw [aG h];omega
section
variable {w w':World} {F G:Nat->Prop} {r s k:Nat} {S:DS} {L:LG}
def Td (E:Nat) (h:aC w F r s S) (K:cK w k r L) (OR:S.fL) (hs:L.f+2+L.n<=s) (aU:S.puts.length+1<=4000000000000) (T:E<=1073741824):
  Calls prog 162 #[pQ k,iV (E:Int)] w λe w'=>e= .returned (iV ((max E (gN (dZ S L.f) L.n):Nat):Int))/\bW w w':=by
 obtain⟨Ml,O,P,Px,Fn⟩:=eK h.ok.hi (yh h) (yh K) (yh h.ok) (yh OR);have p:∀q,dj (S.now (L.f+2+q))=dZ S L.f q:=λq=>rfl;have d:=yh p;clear h K OR p;obtain⟨R,I⟩:=bQ (dZ S L.f);rw [<-I] at d⊢;clear I;go_in;go_wp2;go_loopw [5,6] (λm i wr=>∃j:Nat,j<=L.n/\i=iV (j:Int)/\m=iV ((max E (gN R j):Nat):Int)/\bW w wr) (λ_ i _=>L.n-(intOf i).toNat);case atStart=>exact⟨0,dV _,rfl,by simp [gN],bi _ _⟩
 case round=>
  obtain⟨j,hj,rfl,rfl,ev⟩:=hrel;have C:=yh ev;have cq:=P.o.later ev;obtain⟨D,G,W,hz,Ay,Te⟩:=jE cq.c0 cq.c2 cq.c3 ev.size (yh (OU (R:=R) (E:=E) (j:=j))) (yh (OV (R:=R) (E:=E) (j:=j)));obtain⟨M,A⟩:=bQ (max E (gN R j));rw [<-A] at Ay Te⊢;have Q:=yh A;clear A cq;by_cases bq:j<L.n
  .have cC:(j:Int)<(L.n:Int):=(by omega);have z:=jM ((O.o.later ev).later (ai (bi wr.heap.size wr))) (L.f+2+j) (by omega) (by omega);have ml:=bu Px.o (L.f+2+j) (by omega);have dD:=Fn.o.now (L.f+2+j);have u:=d.o j;rw [show ((L.f+2+j:Nat):Int)=(L.f:Int)+2+(j:Int) by omega] at z;have xZ:IntKind.i64.wrap ((L.f:Int)+2)=(L.f:Int)+2:=(by rw [IntKind.wrap_i64];omega);have aeK:IntKind.i64.wrap ((L.f:Int)+2+(j:Int))=(L.f:Int)+2+(j:Int):=(by rw [IntKind.wrap_i64];omega);generalize S.now (L.f+2+j)=l at*;have N:=DW l;have gW:=pR dD;have Wr:=yh (OT (l:=l));have c:=yh (λa b=>(vK (l:=l) a b).1);have t:=(kh dD).1;rw [u] at Wr c t;clear ev u;go_wp2_with fail;go_region_held3 (λw'=>w'.cell? (aD k 0)=some (pQ r)/\w'.cell? (aD k 2)=some (iV (L.f:Int)))
    (first|exact⟨D,G⟩)
      ((go_at_call 69;refine z.mono ?_;rintro e w1 ⟨g,Y,rfl,hFg,be,bO⟩;have jO:=bO.symm;clear bO;subst jO))
   have ie:=be.src;rw [ml] at ie;have H:=qP (some (aD g 0)) 512 Y l wr.drew ie dD;clear z be ie D G W;go_wp2_with fail;refine H.mono ?_;rintro e w2 ⟨v2,rfl,jv,bd⟩;obtain⟨U,rG,rfl,bo,_,_⟩:=jv.src;obtain⟨dP,xy⟩:=bU (C.o.trans ((ai (bi wr.heap.size wr)).trans bd |>.mono hz)) bo;clear H bd jv bo;by_cases x:(aX l).2=0
   .by_cases k2:(aX l).1.length<12
    .have d2:((aX l).1.length:Int)<12:=(by omega);have y:=yh (Ay.o (.inl (by rw [Wr.o (.inr k2)];omega)));rw [x];go_wp2;go_roundw;case rel=>exact⟨j+1,by omega,by go_num,by rw [y.o],dP.o⟩
     case measure=>simp [intOf];omega
    .have d2:¬((aX l).1.length:Int)<12:=(by omega);have v:=bC U _ rG _ w2 xy.o gW 0 4 (by omega) (by omega) (by omega);rw [<-c.o x (by omega),show (((0:Nat)):Int)=0 from rfl,show (((4:Nat)):Int)=4 from rfl] at v;rw [x];clear c Wr;obtain⟨X,J⟩:=bQ ((R j).e);rw [<-J] at v t Ay Te;clear J;go_wp2_with fail;refine bM v λw3 eG=>?_;have eW:=eG.symm;clear eG v;subst eW;by_cases x1:X<1
     .have y1:¬(1:Int)<=(X:Int):=(by omega);go_wp2;go_roundw;case rel=>exact⟨j+1,by omega,by go_num,by rw [(yh (Ay.o (.inl x1))).out],dP.o⟩
      case measure=>simp [intOf];omega
     .have y1:(1:Int)<=(X:Int):=(by omega);by_cases x2:1073741824<X
      .have y2:¬(X:Int)<=1073741824:=(by omega);go_wp2;go_roundw;case rel=>exact⟨j+1,by omega,by go_num,by rw [(yh (Ay.o (.inr (.inl x2)))).out],dP.o⟩
       case measure=>simp [intOf];omega
      .have y2:(X:Int)<=1073741824:=(by omega);by_cases x3:M<X
       .have y3:(M:Int)<(X:Int):=(by omega);go_wp2;go_roundw;case rel=>exact⟨j+1,by omega,by go_num,by rw [(yh (Te.o (by omega) x3)).out],dP.o⟩
        case measure=>simp [intOf];omega
       .have y3:¬(M:Int)<(X:Int):=(by omega);go_wp2;go_roundw;case rel=>exact⟨j+1,by omega,by go_num,by rw [(yh (Ay.o (.inr (.inr (by omega))))).out],dP.o⟩
        case measure=>simp [intOf];omega
   .have d1:(((aX l).2:Int) == 0)=false:=(by rw [fJ];omega);have Z:(((aX l).2:Int) != 0)=true:=(by rw [gA];omega);have y:=yh (Ay.o (.inl (by rw [Wr.o (.inl x)];omega)));go_wp2;go_roundw;case rel=>exact⟨j+1,by omega,by go_num,by rw [y.o],dP.o⟩
    case measure=>simp [intOf];omega
  .obtain rfl:j=L.n:=(by omega);have wj:¬(L.n:Int)<(L.n:Int):=(by omega);go_wp2;go_ret;exact⟨by rw [<-Q.o];rfl,C.o⟩
end
end
section
def Az {R:Nat->PC} {P:Nat}:∀c,1<=c->(R P).d.length<=(ld R P c).length
 |0,h=>by omega
 |c+1,_=>by
  rw [iB,ed];by_cases e:c=0
  .subst e;rw [Nat.add_zero];omega
  .have:=Az (R:=R) (P:=P) c (by omega);omega
def Rec.some (h:Rec R E P c d):0<d.length:=by
 have a:=(h.2.2.1 0 (by have:=h.1;omega)).2.2.2.2.1;rw [Nat.add_zero] at a;have:=Az (R:=R) (P:=P) c h.1;rw [h.2.2.2];omega
section
variable {w w':World} {F G:Nat->Prop} {r s k:Nat} {S:DS} {L:LG}
structure Tf (w':World) (B k r:Nat) (L:LG) (S:DS) (v:Value) (rs:List (List Int)) (hd:Nat):Prop where
 rc:dQ w' B v rs (λ_=>False)
 t:dF (Rp (dZ S L.f) L.n) (b9 S L.f).1 (b9 S L.f).2.1 rs hd
 x:∀c d,¬Rec (Rp (dZ S L.f) L.n) (b9 S L.f).1 hd c d
 p:cK w' k r {L with ep:=(b9 S L.f).1,tail:=(b9 S L.f).2.1,head:=hd,top:=ir S L.f L.n}
def rl (w w':World) (r s:Nat) (S:DS) (f n:Int) (e:Ending):Prop:=
 if (bA S s f n).1≠0 then e= .returned (.tuple #[.pointer none, .slice none 0 0,iV (bA S s f n).1])
 else∃k v rs hd,e= .returned (.tuple #[pQ k,v,iV 0])/\w.heap.size<=k/\Tf w' w.heap.size k r (LG.new S f.toNat n.toNat) S v rs hd
def cK.J5 (h:cK w k r L) (T:Nat):cK (w.setCell ⟨k,7,none⟩ (.int .i64 (T:Int))) k r {L with top:=T}:=
   (heap_setCell_same _ _ 7 _ _ _ h).trans (by simp)
def cK.aaN (h:cK w k r L) (T:Int) (n:Nat) (a:T=(n:Int)):cK (w.setCell ⟨k,6,none⟩ (.int .i64 T)) k r {L with head:=n}:=by
 subst a;exact(heap_setCell_same _ _ 6 _ _ _ h).trans (by simp)
def dQ.marked {B:Nat} {X:Nat->Prop} (h:dQ w B v rs X) (f:cK w k r L) (j:Nat) (u:Value):dQ (w.setCell ⟨k,j,none⟩ u) B v rs X:=by
 have dM:∀(g:Nat) (t:TypeId) (cur:Array Value),w.heap[g]? =some (Obj.cells cur t (0,0))->t≠199->(w.setCell ⟨k,j,none⟩ u).heap[g]? =w.heap[g]? :=λg t cur a i=>by
  have:g≠k:=λe=>by subst e;exact tU a f i
  exact(aL (F:=λb=>b=k) w rfl j u).block g (aq a) this
 refine h.step (λg d=>?_) (λg cur a _=>dM g _ cur a (by decide)) (λ_ _ h=>h);obtain⟨l,c,_⟩:=h;obtain⟨cur,a⟩:=bz c d;exact dM g _ cur a (by decide)
def OW {B:Nat} (h:dQ W B v rs (λ_=>False)) (l:ay W 5 g c (bs d)) (p:B<=g) (UM:B<=W.heap.size) (pB:rs.length<=1000000):
  ∃v' w',(Builtin.append_ #[79,79] 79 #[v, .slice (some (aD W.heap.size 0)) 1 1]).run prog (W.alloc (.cells #[.slice (some ⟨g,0,none⟩) d.length c] 22))= .ok v' w'/\dQ w' B v' (rs ++ [d]) (λ_=>False)/\Below B W w'/\∀(b:Nat) (cur:Array Value),W.heap[b]? =some (.cells cur 199 (0,0))->w'.heap[b]? =some (.cells cur 199 (0,0)):=by
 obtain⟨u,e,o⟩:=h;obtain⟨t,Q4,w',bD,s,f⟩:=Mi e (.slice (some (aD g 0)) d.length c) rfl pB UM;have iq:=aJ W (.cells #[.slice (some ⟨g,0,none⟩) d.length c] 22);have YQ:=dR e (λx a=>by
  obtain⟨cur,q⟩:=bz e a;exact iq.block x (aq q))
 refine⟨_,w',bD,CD YQ (λi r=>?_) (l.agree (iq.block g l.lt)) p s f,?_,λb cur k=>?_⟩
 .obtain⟨x,y,m,j,n,_⟩:=o i r;exact⟨x,y,m,j.agree (iq.block x j.lt),n⟩
 .exact(iq.mono UM).grown f (j3 UM iq.size) (λx a=>ju e a)
 .exact pW f (λx a=>bz YQ a) ((iq.block b (aq k)).trans k) (by decide)
end
end
section
def BV {S:DS} {s:Nat} {n:Int} (h:cw S s f n≠0):bA S s f n=(cw S s f n,S):=by unfold bA;rw [aG h]
def jg {S:DS} {s b:Nat} (h:cw S s a b=0) (c:(b9 S a).2.2=6):bA S s a b=(6,S.take):=by
 unfold bA;rw [aB (by omega),Int.toNat_natCast,aG (by omega),c];rfl
def K6 {S:DS} {s b:Nat} (h:cw S s a b=0) (d:(b9 S a).2.2=0) (c:ir S a b=1073741824):bA S s a b=(41,S.take):=by
 unfold bA;rw [aB (by omega),Int.toNat_natCast,Int.toNat_natCast,aB (by omega),aG c]
def Ic {S:DS} {s b:Nat} (h:cw S s a b=0) (d:(b9 S a).2.2=0) (c:ir S a b≠1073741824):bA S s a b=S.take.fl s:=by
 unfold bA;rw [aB (by omega),Int.toNat_natCast,Int.toNat_natCast,aB (by omega),aB c]
section
variable {w w':World} {F G:Nat->Prop} {r s k:Nat} {S:DS} {L:LG}
def iI {n:Int} {c:Int} {T:DS} (h:bA S s f n=(c,T)) (a:c≠0) (hd:aC w' F r s T) (b:aa F w w'):rl w w' r s S f n (.returned (.tuple #[.pointer none, .slice none 0 0,iV c]))/\aC w' F r s (bA S s f n).2/\aa F w w':=by
 unfold rl;rw [h];exact⟨by rw [aG a],hd,b⟩
def Id {b:Nat} (h:bA S s (a:Int) (b:Int)=S.take.fl s) (c:(S.take.fl s).1=0) (UN:aC w' F r s (S.take.fl s).2) (d:aa F w w') (mi:w.heap.size<=k) (e:Tf w' w.heap.size k r (LG.new S a b) S v rs hd):
  rl w w' r s S (a:Int) (b:Int) (.returned (.tuple #[pQ k,v,iV 0]))/\aC w' F r s (bA S s (a:Int) (b:Int)).2/\aa F w w':=by
 unfold rl;rw [h];refine⟨?_,UN,d⟩;rw [aB (λh=>h c)];exact⟨k,v,rs,hd,rfl,mi,e⟩
def Tg {B:Nat} {xs:List Value} (h:W.ownsRow B e 1 v n xs) (b:v.ownBlock=some g):g<W.heap.size:=by
 obtain⟨cur,a⟩:=bz h b;exact aq a
def OX (h:aC w F r s S) (dD:S.fL) (f n:Int) (aU:S.puts.length+500<=4000000000000):
  Calls prog 118 #[pQ r,iV f,iV n] w λe w'=>rl w w' r s S f n e/\aC w' F r s (bA S s f n).2/\aa F w w':=by
 have m:=CK h f n;have iK:=yh h.lt;have HD:=yh h;go_in;go_wp2_with fail;by_cases q:cw S s f n=0
 .have A:=yh q;obtain⟨Zs,a,b,rfl,rfl,oE,ar,bd⟩:=fV q;rw [q] at m;have hs:=h.ok.hi;have U:=zy h;have hlA:=bu h.ok a (by omega);have hlB:=bu h.ok (a+1) (by omega);have lz:=rN (S.now a) (S.now (a+1));have u:b9 S a=ik (S.now a) (S.now (a+1)):=rfl;have Fn:=yh dD;have HN:=yh (λa1 c1 a2 c2 w1 q1 q2=>mv a1 512 c1 (S.now a) a2 512 c2 (S.now (a+1)) w1 q1 q2 (dD.now a) (dD.now (a+1)));have ml:=F8 (S.now a) (S.now (a+1));unfold ik at u;generalize am (S.now a) (S.now (a+1))=X at*;obtain⟨x1,N,D,ER⟩:=X;simp only at u lz HN ml;have K8:=yh u;clear h q dD u;refine bM m λw1 bO=>?_;have jO:=bO.symm;clear bO;subst jO;clear m;go_wp2_with fail;refine fR U λH cI aY=>?_;have sq:=yh cI;have ig:=yh aY;have eu:=aY.size;have h3:=jM cI a (by omega) (by show S.puts.length<=_;omega);have h4:=jM cI (a+1) (by omega) (by show S.puts.length<=_;omega);rw [show ((a+1:Nat):Int)=(a:Int)+1 by omega] at h4;clear U cI aY;go_wp2_with fail;refine h3.mono ?_;rintro e w3 ⟨g3,c3,rfl,_,rK,eG⟩;have eW:=eG.symm;clear eG;subst eW;have fK:=rK.src;rw [show S.take.now a=S.now a from rfl,hlA] at fK;have J:=yh fK;clear h3 rK fK;go_wp2_with fail;refine h4.mono ?_;rintro e w4 ⟨g4,c4,rfl,_,MI,pk⟩;have EJ:=pk.symm;clear pk;subst EJ;have Ej:=MI.src;rw [show S.take.now (a+1)=S.now (a+1) from rfl,hlB] at Ej;have h5:=HN.o (some (aD g3 0)) c3 (some (aD g4 0)) c4 H J.o Ej;clear h4 MI Ej HN J;go_wp2_with fail;refine h5.mono ?_;rintro e w5 ⟨v5,rfl,Bv,fa⟩;obtain⟨a5,c5,rfl,XQ,_,_⟩:=Bv.src;have jq:=yh fa;have pL:=fa.size;have l:Yh (aa F w w5):=ig.o.trans (aa.ah F fa) (λ_ h=> .inl h);have k:=yh (sq.o.later fa);clear h5 Bv fa XQ;have q1:(N:Int).tdiv 4294967296=((N / 4294967296:Nat):Int):=by rw [Int.tdiv_eq_ediv_of_nonneg (by omega)];omega
  have q2:(N:Int).tmod 4294967296=((N%4294967296:Nat):Int):=by rw [Int.tmod_eq_emod_of_nonneg (by omega)];omega
  have hE0:N / 4294967296<=2147483647:=by omega
  have hT0:N%4294967296<4294967296:=by omega
  obtain⟨E,hE⟩:=bQ (N / 4294967296);obtain⟨T,hT⟩:=bQ (N%4294967296);obtain⟨R,qN⟩:=bQ D.length;rw [<-hE] at q1 hE0 K8;rw [<-hT] at q2 hT0 K8;rw [<-qN] at K8 ml⊢;clear hE hT qN;by_cases k1:ER=0
  .subst k1;by_cases k2:0<R
   .have j:=yh (jg (b:=b) A.o (by rw [K8.o,aG (.inr (.inl k2))]));have d2:(0:Int)<(R:Int):=(by omega);clear K8;go_wp2;go_ret3;exact iI j.o (by omega) k.o l.o
   .have d2:¬(0:Int)<(R:Int):=(by omega);obtain rfl:R=0:=(by omega);by_cases k3:E<1
    .have j:=yh (jg (b:=b) A.o (by rw [K8.o,aG (.inr (.inr (.inl k3)))]));have d3:(E:Int)<1:=(by omega);clear K8;go_wp2;go_ret3;exact iI j.o (by omega) k.o l.o
    .have d3:¬(E:Int)<1:=(by omega);by_cases k4:1073741824<E
     .have j:=yh (jg (b:=b) A.o (by rw [K8.o,aG (.inr (.inr (.inr (.inl k4))))]));have d4:(1073741824:Int)<(E:Int):=(by omega);clear K8;go_wp2;go_ret3;exact iI j.o (by omega) k.o l.o
     .have d4:¬(1073741824:Int)<(E:Int):=(by omega);by_cases k5:1073741824<T
      .have j:=yh (jg (b:=b) A.o (by rw [K8.o,aG (.inr (.inr (.inr (.inr k5))))]));have d5:(1073741824:Int)<(T:Int):=(by omega);clear K8;go_wp2;go_ret3;exact iI j.o (by omega) k.o l.o
      .have d5:¬(1073741824:Int)<(T:Int):=(by omega);have y:Yh (b9 S a=(E,T,0)):=by
        have:=K8.o;rw [aB (by omega)] at this;exact this
       clear K8;have MD:cK (w5.alloc (.cells (lrC r ⟨a,b,wrap64 (S.life+1),false,E,T,T,0⟩) 199)) w5.heap.size r ⟨a,b,wrap64 (S.life+1),false,E,T,T,0⟩:=heap_alloc_new _ _;have nE:=aJ w5 (.cells (lrC r ⟨a,b,wrap64 (S.life+1),false,E,T,T,0⟩) 199);have W:=Td E (k.o.later nE) MD Fn.o.take (by show a+2+b<=s;omega) (by show S.puts.length+1<=_;omega) (by omega);have DR:max E (gN (dZ S.take a) b)=ir S a b:=(by unfold ir;rw [y.o];rfl);rw [show (({f:=a,n:=b,life:=wrap64 (S.life+1),begun:=false,ep:=E,tail:=T,head:=T,top:=0}:LG).f)=a from rfl,show (({f:=a,n:=b,life:=wrap64 (S.life+1),begun:=false,ep:=E,tail:=T,head:=T,top:=0}:LG).n)=b from rfl,DR] at W;have Ai:=D4 (S:=S) (f:=a) (n:=b) (by rw [y.o]);obtain⟨Q,hQ⟩:=bQ (ir S a b);rw [<-hQ] at W Ai;obtain⟨C,HL6,xu⟩:=kF hQ MD nE;have Ru:(w5.alloc (.cells (lrC r ⟨a,b,wrap64 (S.life+1),false,E,T,T,0⟩) 199)).heap.size=w5.heap.size+1:=(by simp);clear hQ DR MD nE;go_wp2_with fail;refine bM W λY xx=>?_;have C3:=HL6.o.later xx;have Fp:Yh (bW H Y):=jq.o.trans ((xu.o.trans (xx.mono (by omega))).mono pL);have c7:=C3.c7;have f7:=C3.fz 7;have C4:=C3.J5 Q;have HL8:=yh C4;have c7':(Y.setCell ⟨w5.heap.size,7,none⟩ (.int .i64 (Q:Int))).cell? (aD w5.heap.size 7)=some (iV (Q:Int)):=C4.c7;have Yd:Yh (bW H (Y.setCell ⟨w5.heap.size,7,none⟩ (.int .i64 (Q:Int)))):=Fp.o.setCell (p:=⟨w5.heap.size,7,none⟩) pL _;clear W xx C3 C4 Fp;by_cases P:Q=1073741824
       .have j:=yh (K6 A.o (by rw [y.o]) (C.o.symm.trans P));have d6:((Q:Int) == 1073741824)=true:=(by rw [P];rfl);clear P;have UC:Yh (aa F w _):=ig.o.trans (aa.ah F Yd.o) (λ_ h=> .inl h);go_wp2;go_ret3;exact iI j.o (by omega) (yh (sq.o.later Yd.o)).out UC.o
       .have d6:¬(Q:Int)=1073741824:=(by omega);have d6':((Q:Int) == 1073741824)=false:=(by rw [fJ];omega);have j:=yh (Ic A.o (by rw [y.o]) (λh=>P (C.o.trans h)));go_wp2;generalize Y.setCell ⟨w5.heap.size,7,none⟩ (.int .i64 (Q:Int))=w8 at*;clear c7 c7' f7 P d6 d6';go_loopw [20] (λv wr=>∃(rs:List (List Int)) (hd:Nat),cK wr w5.heap.size r ⟨a,b,wrap64 (S.life+1),false,E,T,hd,Q⟩/\dQ wr H.heap.size v rs (λ_=>False)/\dF (Rp (dZ S a) b) E T rs hd/\bW H wr) (λ_ wr=>T+b-(intOf ((wr.cell? (aD w5.heap.size 6)).getD (.bool false))).toNat);case atStart=>exact⟨[],T,HL8.o,dQ.nil _ _ _,dF.nil _ _ _,Yd.o⟩
        case round=>
         obtain⟨rs,hd,BK,Gj,Ai,ev⟩:=hrel;have hdb:=dF.round (by omega) (tS (dZ S a) b) Ai;have rF:=dF.length Ai;have c6:wr.cell? (aD w5.heap.size 6)=some (iV (hd:Int)):=BK.c6;obtain⟨is,RM,WP,K,mh,Ae,Z⟩:=nw (WO E hd (sq.o.later ev) BK Fn.o.take (by show a+2+b<=s;omega) (by show 1<=b;omega) (by show S.puts.length+1<=_;omega) (by omega) (by omega)) (yh BK) (yh Gj) (yh Ai) (yh ev) ev.size (yh c6);clear BK Gj Ai ev;go_wp2_with fail;refine is.mono ?_;rintro e w9 ⟨v9,n9,rfl,hao,A5⟩;have hz9:=A5.size;rcases hao with ⟨c,d,Fo,rfl,aA⟩|⟨rfl,rfl,i9⟩
         .have A4:=Fo.1;have aqT:=Fo.2.1;have d9:((c:Int) == 0)=false:=(by rw [fJ];omega);obtain⟨g,cg,rfl,hg,be⟩:=aA.Vl Fo.some;obtain⟨v',Th,bD,Dy,aeV,O⟩:=OW (WP.o.cells (ez A5)) be (by omega) (by omega) (by omega);have Ti:cK Th w5.heap.size r ⟨a,b,wrap64 (S.life+1),false,E,T,hd,Q⟩:=O _ _ (RM.o.later A5);have c6':Th.cell? (aD w5.heap.size 6)=some (iV (hd:Int)):=Ti.c6;have f6:=Ti.fz 6;have Yo:=K.o.snoc (show Rec (Rp (dZ S a) b) E hd c d from Fo);have DU:=dF.round (by omega) (tS (dZ S a) b) Yo;have nJ:=yh bD;have BO:cK (Th.setCell ⟨w5.heap.size,6,none⟩ (.int .i64 ((hd:Int)+(c:Int)))) w5.heap.size r ⟨a,b,wrap64 (S.life+1),false,E,T,hd+c,Q⟩:=Ti.aaN ((hd:Int)+(c:Int)) (hd+c) (by omega);have HZ:=yh (aH BO (aH (Dy.marked Ti 6 (iV ((hd:Int)+(c:Int)))) (aH Yo ((mh.o.trans ((A5.mono Ae).trans aeV)).setCell (p:=⟨w5.heap.size,6,none⟩) pL (iV ((hd:Int)+(c:Int)))))));have ajV:Yh ((Th.setCell ⟨w5.heap.size,6,none⟩ (.int .i64 ((hd:Int)+(c:Int)))).cell? (aD w5.heap.size 6)=some (iV ((hd+c:Nat):Int))):=BO.c6;clear is A5 bD Dy aeV O Ti BO Yo be aA Fo c6;go_wp2_with (at_builtin;refine br rfl _ _ 79 rfl u20 (.slice (some (aD w9.heap.size 0)) 1 1) _ rfl rfl nJ.o ?_);go_wp2;go_roundw;case rel=>exact⟨rs ++ [d],hd+c,HZ.o⟩
          case measure=>
           rw [Z.o,ajV.o];simp [intOf];omega
         .have jW:=Gx (sq.o.later (mh.o.trans (A5.mono Ae))) (by show S.puts.length+1<=_;omega);have ajW:=yh (WP.o.cells (ez A5));have HL9:=yh (RM.o.later A5);have I:Yh (bW H w9):=mh.o.trans (A5.mono Ae);have sW:=yh i9;clear is A5 i9 c6;by_cases G:(S.take.fl s).1=0
          .rw [G] at jW;go_wp2_with fail;refine fR jW λTh Tj Ie=>?_;have Z3:Yh (aa F w Th):=ig.o.trans ((aa.ah F I.o).trans Ie (λ_ h=> .inl h)) (λ_ h=> .inl h);have x:=yh Tj;have t:=iK.o;have HT:Yh (Tf Th w.heap.size w5.heap.size r (LG.new S a b) S u20 rs hd):=by
            refine⟨?_,by show dF (Rp (dZ S a) b) (b9 S a).1 (b9 S a).2.1 rs hd;rw [y.o];exact K.o,by show∀c d,¬Rec (Rp (dZ S a) b) (b9 S a).1 hd c d;rw [y.o];exact sW.o,?_⟩
            .obtain⟨vs,m,U⟩:=ajW.o.low eu (λ_ h=>h);refine⟨vs,dR m (λg hg=>Ie.block g (Tg m hg) (λL=>by have:=ju m hg;have:=t _ L;omega)),λi hi=>?_⟩;obtain⟨g,c,e,hr,hb,hx⟩:=U i hi;exact⟨g,c,e,hr.agree (Ie.block g hr.lt (λL=>by have:=t _ L;omega)),hb,hx⟩
            .have e1:({LG.new S a b with ep:=(b9 S a).1,tail:=(b9 S a).2.1,head:=hd,top:=ir S a b}:LG)=⟨a,b,wrap64 (S.life+1),false,E,T,hd,Q⟩:=(by rw [y.o,C.o];rfl);show cK Th w5.heap.size r ({LG.new S a b with ep:=(b9 S a).1,tail:=(b9 S a).2.1,head:=hd,top:=ir S a b}:LG);rw [e1];exact HL9.o.aw Ie (λL=>by have:=t _ L;omega)
           have HK7:=yh G;clear jW Tj Ie G t;go_wp2;go_ret3;exact Id j.o HK7.o x.o Z3.o (by omega) HT.o
          .have M:=lu G;have d7:((S.take.fl s).1 == 0)=false:=(by rw [fJ];exact G);have d7':((S.take.fl s).1 != 0)=true:=(by rw [gA];exact G);have HP3:Yh (bA S s (a:Int) (b:Int)=(3,(S.take.fl s).2)):=by
            rw [j.o];exact Prod.ext M.2.2 rfl
           obtain⟨z,hz⟩:=bQ ((S.take.fl s).1);rw [<-hz] at jW d7 d7';clear G M hz;go_wp2_with fail;refine fR jW λTh Tj Ie=>?_;have Z3:Yh (aa F w Th):=ig.o.trans ((aa.ah F I.o).trans Ie (λ_ h=> .inl h)) (λ_ h=> .inl h);have x:=yh Tj;clear jW Tj Ie;go_wp2;go_ret3;exact iI HP3.o (by omega) x.o Z3.o
  .have j:=yh (jg (b:=b) A.o (by rw [K8.o,aG (.inl k1)]));have d1':((ER:Int) != 0)=true:=(by rw [gA];omega);clear K8;go_wp2;go_ret3;exact iI j.o (by omega) k.o l.o
 .have d:(cw S s f n == 0)=false:=by rw [fJ];exact q
  have d':(cw S s f n != 0)=true:=by rw [gA];exact q
  refine bM m λw1 bO=>?_;have jO:=bO.symm;clear bO;subst jO;clear m;go_wp2;go_ret3;exact iI (yh (BV q)).out q HD.o (aa.refl _ _)
end
end
section
def eI (w:World) (F:Nat->Prop) (r s:Nat) (S:DS) (e:Ending) (w':World):Prop:=∃x S',j0 S s x S'/\aa F w w'/\((x≠0/\e= .returned (.tuple #[.pointer none,iV x])/\aC w' (more F w w') r s S')\/(x=0/\∃(k kl:Nat) (L:LG) (F' X:Nat->Prop),sY S s L/\e= .returned (.tuple #[pQ k,iV 0])/\(∀j,F' j->more F w w' j)/\(∀j,X j->w.heap.size<=j)/\aC w' F' r s S'/\iL w' F' X r s S' k kl ⟨cE (S.now 0),L, [],false⟩ (.slice none 0 0) [] 0 (.pointer none)))
section
variable {w w':World} {F:Nat->Prop} {r s:Nat} {S:DS}
def If (hd:aC w F r s S) (b:S.fuse=0):
  Calls prog 59 #[pQ r] w λe w'=>eI w F r s S e w':=by
 have a:=kn hd;rw [show (S.fuse == 0)=true by simp [b]] at a;go_in;go_wp2_with fail;refine bM a λw1 bO=>?_;subst bO;go_wp2;go_ret2;exact⟨3,S, .inl ⟨.inl ⟨b,rfl,rfl⟩,by decide,rfl⟩,aa.refl _ _, .inl ⟨by decide,rfl,hd.mono (λ_ h=> .inl h) (λk c=>c.elim (λh=>hd.lt k h) (λh=>h.2))⟩⟩
def eI.bad (hd:aC w F r s S) (c:S.fuse≠0) (i9:¬mI (S.now 0) s) (a:bW w w'):eI w F r s S (.returned (.tuple #[.pointer none,iV 6])) w':=by
 have h:=hd.later a;exact⟨6,S, .inl ⟨.inr (.inr ⟨c,i9,rfl,rfl⟩),by decide,rfl⟩,aa.ah _ a, .inl ⟨by decide,rfl,h.mono (λ_ h=> .inl h) (λk d=>d.elim (λb=>h.lt k b) (λh=>h.2))⟩⟩
def MJ {S:DS} {s:Nat}:(L.start S s).2.2.f+2+(L.start S s).2.2.n=L.f+2+L.n:=by
 unfold LG.start;split
 .rfl
 .split
  .rfl
  .split <;> rfl
def eI.fail (bq:∀j,F j->j<w.heap.size) (mc:j0 S s x S') (d:x≠0) (hd:aC w' F7 r s S') (b:∀j,F7 j->more F w w' j) (a:aa F w w'):eI w F r s S (.returned (.tuple #[.pointer none,iV x])) w':=
   ⟨x,S',mc,a, .inl ⟨d,rfl,hd.mono b (λj c=>c.elim (λh=>i5 (bq j h) a.size) (λh=>h.2))⟩⟩
def eI.done {k a:World} (p:y=cE (S.now 0)) (m:∀j,F j->j<w.heap.size) (mc:j0 S s 0 S') (mR:sY S s L) (l:∀j,F7 j->more F w k j) (gO:aa F w k) (oc:w.heap.size<=kl) (OY:¬F7 kl) (aqX:kl<k.heap.size) (oM:aC a (more F7 k a) r s S') (C4:cK a kl r L) (jV:aa (λj=>F7 j\/j=kl) k a) (A2:L.Ok s) (vA:L.begun=true) (XU:y.home+y.blocks<=s) (BO:L.f+2+L.n<=y.home):
  eI w F r s S (.returned (.tuple #[pQ a.heap.size,iV 0])) (a.alloc (.cells (rsC r kl y (.slice none 0 0) 0 (.pointer none)) 128)):=by
 have q:=jV.size;have pb:bW a (a.alloc (.cells (rsC r kl y (.slice none 0 0) 0 (.pointer none)) 128)):=(bi a.heap.size a).alloc (bS _) _;have eE:(a.alloc (.cells (rsC r kl y (.slice none 0 0) 0 (.pointer none)) 128)).heap.size=a.heap.size+1:=by simp
 refine⟨0,S',mc,?_, .inr ⟨rfl,a.heap.size,kl,L,more F7 k a,(λj=>j=a.heap.size\/j=kl),mR,rfl,λj d=>?_,λj d=>?_,oM.later pb,?_⟩⟩
 .refine(gO.trans jV (λj d=>?_)).trans (aa.ah (λ_=>False) pb) (λ_ h=>h.elim);rcases d with d|d
  .exact(l j d).imp id (λh=>h.1)
  .exact .inr (by omega)
 .rcases d with d|d
  .exact(l j d).imp id (λh=>⟨h.1,by omega⟩)
  .exact .inr ⟨by omega,by omega⟩
 .rcases d with d|d <;> omega
 .subst p;refine⟨heap_alloc_new _ _,C4.later pb,Pl.nil _ _, .inl rfl, .inr rfl,λg e i=>?_,λg e=>?_,A2,vA,XU,BO,rfl,dV _,λx i=>(by cases i),λ_ b _ _ c o=>(by cases o)⟩
  .rcases e with e|e
   .have:=oM.lt g i;omega
   .rcases i with i|i
    .exact OY (e▸i)
    .omega
  .rcases e with e|e <;> omega
def Ig (hd:aC w F r s S) (hf:S.fuse≠0) (dD:S.fL) (aU:S.puts.length+6000<=4000000000000):
  Calls prog 59 #[pQ r] w λe w'=>eI w F r s S e w':=by
 have h1:=kn hd;rw [show (S.fuse == 0)=false by simp [hf]] at h1;have yy:=hd.ok.lo;have lz:=hd.ok.hi;have h2:=jM hd 0 (by omega) (by omega);have hl:=bu hd.ok 0 (by omega);have hbn:=dD.now 0;obtain⟨HSi,K,HF,HBn⟩:=Bh (C8 hbn hl) hd hf hbn;have Fn:=yh dD;clear hd hf;go_in;go_wp2_with fail;refine bM h1 λw1 bO=>?_;subst bO;clear h1;go_wp2_with fail;refine h2.mono ?_;rintro e w2 ⟨g,c,rfl,hFg,hr,dE⟩;subst dE;have h3:=BU g 0 c (S.now 0) w2 hl HBn.o (λi Q=>by have:=hr.src.2.2 _ rfl i (by rw [hl];exact Q);rwa [aN] at this);clear h2 hr;go_wp2_with fail;refine h3.mono ?_;rintro e w3 ⟨v,x,rfl,mc,bF⟩;clear h3
 rename World=>W0
 rcases mc with ⟨h0,rfl,rfl⟩|⟨h0,rfl,rfl⟩
 .have Ih:oO (S.now 0):=HSi.o.2 h0;have uE:=h0.1;clear h0;obtain⟨W,O⟩:∃W,W=W0.alloc (.cells #[.int .i64 ((u32 (S.now 0) 8:Nat):Int), .int .i64 ((u32 (S.now 0) 12:Nat):Int), .int .i64 ((u32 (S.now 0) 16:Nat):Int)] 40):=⟨_,rfl⟩;have iq:W.heap[W0.heap.size]? =some (.cells #[.int .i64 ((u32 (S.now 0) 8:Nat):Int), .int .i64 ((u32 (S.now 0) 12:Nat):Int), .int .i64 ((u32 (S.now 0) 16:Nat):Int)] 40 (0,0)):=by rw [O];exact heap_alloc_new _ _
  have UM:bW w2 W:=by rw [O];exact bF.alloc bF.size _
  have aqY:=bF.size;have Hu:W.heap.size=W0.heap.size+1:=by rw [O,World.size_alloc]
  go_wp2_with fail;rw [<-O];clear O bF;have hdW:=K.o.later UM;have c0:=aM iq;have nP:=λk=>mA (hdW.later (below_drewN (bi _ _) k));have HW:=yh (aH hdW (aH UM iq));clear hdW UM iq;by_cases oC:u32 (S.now 0) 8=s
  .have WH:(((u32 (S.now 0) 8:Nat):Int) != ((s:Nat):Int))=false:=(by rw [oC];simp);have K9:Yh (mI (S.now 0) s):=yh ⟨Ih,oC⟩;have HXs:=yh oC;clear oC;go_quiet (first|(go_at_call 52;refine Calls.quiet_of_same (nP _)));rename_i nq _;have H:bW W (W.drewN nq):=below_drewN (bi _ _) nq;have fd:=yh (aH (HW.o.1.later H) (aH (HW.o.2.1.trans (H.mono HW.o.2.1.size)) ((H.block W0.heap.size (by omega)).trans HW.o.2.2)));have aqZ:(W.drewN nq).heap.size=W0.heap.size+1:=Hu;clear HW c0 nP H Hu;generalize W.drewN nq=V at*;have x0:=aM fd.o.2.2;have x1:V.cell? (aD W0.heap.size 1)=some (iV ((u32 (S.now 0) 12:Nat):Int)):=bG fd.o.2.2;have x2:=bK fd.o.2.2;have h3g:((u32 (S.now 0) 12:Nat):Int)+((u32 (S.now 0) 16:Nat):Int) / 4+6<=(s:Int):=by
    have:=uE;unfold vE at this;rw [HXs.o] at this;omega
   have Tk:Calls prog 51 #[.agg #[iV ((u32 (S.now 0) 8:Nat):Int),iV ((u32 (S.now 0) 12:Nat):Int),iV ((u32 (S.now 0) 16:Nat):Int)]] V λe w'=>e= .returned (.tuple #[PD (cE (S.now 0)),iV 0])/\bW V w':=by
    refine(vM ((u32 (S.now 0) 8:Nat):Int) ((u32 (S.now 0) 12:Nat):Int) ((u32 (S.now 0) 16:Nat):Int) V).mono ?_;rintro e d ⟨v,x,rfl,UJ,MK⟩;rcases UJ with ⟨_,rfl,rfl⟩|⟨h9,_⟩
    .refine⟨?_,MK⟩;rw [show ((u32 (S.now 0) 8:Nat):Int)=(s:Int) by rw [HXs.o]];exact SL (S.now 0) HXs.o h3g
    .exact absurd uE h9
   have I:=kw K9.o;have hyl:((u32 (S.now 0) 12:Nat):Int)=((cE (S.now 0)).log:Int):=rfl;obtain⟨y,hy⟩:=bQ (cE (S.now 0));rw [<-hy] at Tk I hyl;obtain⟨a,HYl⟩:=bU hy hyl;clear uE Ih h3g hyl hy;go_wp2_with fail;refine bM Tk λd MK=>?_;clear Tk;have Yp:=MK.size;obtain⟨U,hU⟩:∃U,U=d.alloc (.cells #[.int .i64 (y.log:Int), .int .i64 (y.home:Int), .int .i64 (y.blocks:Int), .int .i64 (y.nodes:Int), .int .i64 (y.data:Int)] 75):=⟨_,rfl⟩;have hux:U.heap[d.heap.size]? =some (.cells #[.int .i64 (y.log:Int), .int .i64 (y.home:Int), .int .i64 (y.blocks:Int), .int .i64 (y.nodes:Int), .int .i64 (y.data:Int)] 75 (0,0)):=(by rw [hU];exact heap_alloc_new _ _);have UO:bW w2 U:=(by rw [hU];exact(fd.o.2.1.trans (MK.mono fd.o.2.1.size)).alloc (by omega) _);have hzU:U.heap.size=d.heap.size+1:=(by rw [hU,World.size_alloc]);have x1U:U.cell? (aD W0.heap.size 1)=some (iV (y.log:Int)):=by
    have e1:bW V U:=(by rw [hU];exact MK.alloc Yp _);rw [<-HYl.o];exact iF e1 (by omega) x1
   have hdU:=K.o.later UO;have me:=OX hdU Fn.o 1 (y.log:Int) (by omega);have HU:=yh (aH hdU (aH UO hux))
   dsimp only [PD]
   clear x0 x1 x2 MK hdU UO hux
   go_upto_region 7 with fail
   rw [<-hU];clear hU;go_wp2_with fail;refine me.mono ?_;rintro e w4 ⟨uF,P,dW⟩;clear me x1U;have wk:=dW.size;have ML:=λj b=>K.o.lt j b;have EK:=(aa.ah F HU.o.2.1).trans dW (λ_ h=> .inl h);have aaP:=(dW.block d.heap.size (by omega) (λhF=>by have:=ML _ hF;omega)).trans HU.o.2.2;unfold rl at uF;by_cases q:(bA S s 1 (y.log:Int)).1=0
   .rw [aB (λh=>h q)] at uF;obtain⟨kl,v,rs,hd,rfl,oc,ht⟩:=uF;have Fq:jQ S 1 y.log rs hd:=⟨ht.t,ht.x⟩;have aeX:cK w4 kl r (fh S 1 y.log hd):=ht.p;obtain⟨WQ,EL,Ii,Ij⟩:=l7 (f:=1) q;obtain⟨vf,BG,_,_⟩:=Fq.small Fn.o (by omega);have xJ:=yn (s:=s) Fq Fn.o EL Ii (by omega) (by omega) (by omega);obtain⟨ta,tn,tc,hv,Yo,vg⟩:=ht.rc.aeQ.shape;subst hv Yo;obtain⟨A,HL4,HD4,Sr,HUx,HCl,WC,M,G,N⟩:=acm Fq aeX P EK aaP vg BG (aH EL (aH Ii Ij)) xJ q;have dq:((bA S s 1 (y.log:Int)).1 != 0)=false:=(by rw [q];rfl);have hyb:=I.2.2.2.2;clear ht Fq aeX P dW EK aaP vg BG WQ EL Ii Ij xJ fd q;go_wp2;go_loopw [11,12] (λv i wr=>∃(j:Nat) (ps:List (Nat×List Int)),j<=rs.length/\i=iV (j:Int)/\iH y.blocks [] rs=iH y.blocks (CM.bT [] ps) (rs.drop j)/\(∀x∈ps,x.1<y.blocks)/\ps.length<=16*j/\Pn wr (λj=>w4.heap.size<=j) w4.heap.size v ps/\bW w4 wr) (λ_ i _=>rs.length-(intOf i).toNat);case atStart=>exact⟨0, [],dV _,rfl,rfl,λx z=>(by cases z),dV _,Pn.nil _ _ _,bi _ _⟩
    case round=>
     obtain⟨j,ps,b,rfl,bV,Pm,py,nA,ev⟩:=hrel;obtain⟨Ae,Je,mh,HPk⟩:=cO ev.size (yh nA) (yh ev) (yh Pm);by_cases qj:j<rs.length
     .have qj':(j:Int)<(rs.length:Int):=(by omega);obtain⟨tb,tg,D,rfl,p1,be⟩:=HCl.o j qj;have aeY:∀{g o:Nat} {u:Value},w4.cell? (aD g o)=some u->wr.cell? (aD g o)=some u:=λhc=>dw (aa.ah (λ_=>False) ev) (λh=>h) hc;have T:=aeY p1;have R:wr.cell? (aD d.heap.size 2)=some (iV (y.blocks:Int)):=aeY (bK HUx.o);have Ik:=be.agree (ev.block tg be.lt);have vw:=List.drop_eq_getElem_cons qj;rw [vw,sZ] at bV;have Fo:=H8 (some (aD tg 0)) (rs[j]).length D rs[j] wr.drew (Ik.src.later (ai (bi _ _))) (WC.o _ (List.getElem_mem qj)).1 (WC.o _ (List.getElem_mem qj)).2 (by have:=Ik.le;simpa [bs] using this) (by have:=Ik.max;unfold maxLen at this;omega) y.blocks hyb;cases I2:gF y.blocks rs[j] with
      |none=>
       rw [I2] at bV Fo;have Tl:Calls prog 119 #[.slice (some (aD tg 0)) (rs[j]).length D,iV (y.blocks:Int)] wr.drew λe w'=>e= .returned (.tuple #[.slice none 0 0, .bool false])/\bW wr w':=Fo.mono (by
        rintro e w' ⟨ho,hb⟩;rcases ho with ⟨_,rfl⟩|⟨cs,v',h0,_⟩
        .exact⟨rfl,(ai (bi _ _)).trans hb⟩
        .cases h0)
       obtain⟨WP,OS⟩:=bU Tl bV;clear Fo Tl nA ev Pm p1 be Ik bV;go_wp2_with fail;go_region_held3 (λw'=>w'.cell? (aD tb j)=some (.slice (some (aD tg 0)) (rs[j]).length D)/\w'.cell? (aD d.heap.size 2)=some (iV (y.blocks:Int)))
        (first|exact⟨T,R⟩|exact VE)
          ((go_at_call 119;refine WP.o.mono ?_;rintro e w5 ⟨rfl,fa⟩;have VE:w5.cell? (aD tb j)=some (.slice (some (aD tg 0)) (rs[j]).length D)/\w5.cell? (aD d.heap.size 2)=some (iV (y.blocks:Int)):=⟨dw (aa.ah (λ_=>False) fa) (λh=>h) T,dw (aa.ah (λ_=>False) fa) (λh=>h) R⟩))
       have jq:=yh (mh.o.trans (fa.mono Ae));clear VE fa;go_wp2;go_ret2;have A5:=jq.o;exact eI.fail (F7:=F) ML (.inr ⟨K9.o,HF.o, .inr ⟨by rw [<-a.o];exact N.o,rs,hd,by rw [<-a.o];exact A.o, .inl ⟨by rw [<-a.o];exact OS.o,rfl,by rw [<-a.o]⟩⟩⟩) (by decide) (HD4.o.later A5) (λ_ h=> .inl h) (Sr.o.trans (aa.ah (λ_=>False) A5) (λ_ h=>h.elim))
      |some cs=>
       rw [I2] at bV Fo;have yw:=OQ I2;have Z6:=oQ I2;have Tl:Calls prog 119 #[.slice (some (aD tg 0)) (rs[j]).length D,iV (y.blocks:Int)] wr.drew λe w'=>∃v',e= .returned (.tuple #[v', .bool true])/\Pn w' (λj=>wr.heap.size<=j) wr.heap.size v' cs/\bW wr w':=Fo.mono (by
        rintro e w' ⟨ho,hb⟩;rcases ho with ⟨h0,_⟩|⟨cs',v',h0,rfl,hp⟩
        .cases h0
        .cases h0;exact⟨v',rfl,hp,(ai (bi _ _)).trans hb⟩)
       obtain⟨WP,OS,HCk⟩:=kF Tl bV Z6;clear Fo Tl nA ev Pm p1 be Ik bV Z6 I2;go_wp2_with fail;go_region_held3 (λw'=>w'.cell? (aD tb j)=some (.slice (some (aD tg 0)) (rs[j]).length D)/\w'.cell? (aD d.heap.size 2)=some (iV (y.blocks:Int)))
        (first|exact⟨T,R⟩|exact VE)
          ((go_at_call 119;refine WP.o.mono ?_;rintro e w5 ⟨v',rfl,Sy,fa⟩;have VE:w5.cell? (aD tb j)=some (.slice (some (aD tg 0)) (rs[j]).length D)/\w5.cell? (aD d.heap.size 2)=some (iV (y.blocks:Int)):=⟨dw (aa.ah (λ_=>False) fa) (λh=>h) T,dw (aa.ah (λ_=>False) fa) (λh=>h) R⟩))
       have pL:=fa.size;obtain⟨g2,cz,X,bD,aeZ,jD⟩:=(Je.o.later fa).cat Sy (λi (Q:wr.heap.size<=i)=>(j3 Ae Q:w4.heap.size<=i)) (by omega) (by omega) (by omega);have nE:=(mh.o.trans (fa.mono Ae)).trans (jD.below (λi Q=>Je.o.lo i Q) (by omega));obtain⟨l,nJ⟩:=bU (aH aeZ nE) bD;clear VE fa Sy bD aeZ jD nE;go_wp2_with (at_builtin;refine br rfl _ _ 126 rfl u11 v' _ rfl rfl nJ.o ?_);go_roundw;case rel=>exact⟨j+1,ps ++ cs,by omega,by go_num,by rw [p8];exact OS.o,λx z=>(List.mem_append.1 z).elim (HPk.o x) (HCk.o x),by rw [ed];omega,l.o⟩
       case measure=>simp [intOf];omega
     .have qj':¬(j:Int)<(rs.length:Int):=(by omega);obtain rfl:j=rs.length:=(by omega);rw [List.drop_length] at bV;have uR:iH y.blocks [] rs=some (CM.bT [] ps):=bV;obtain⟨A5,kt,BK,WR⟩:=cO ev (HD4.o.later ev) (HL4.o.later ev) (Sr.o.trans (aa.ah (λ_=>False) ev) (λ_ h=>h.elim));have Il:=(ev.block d.heap.size (by omega)).trans HUx.o;have aq2:=HL4.o.lt;have OY:¬F kl:=λhF=>by have:=ML _ hF;omega
      have aaS:(bA S s 1 (y.log:Int)).2.puts= []:=by
       have:=N.o;rw [show bA S s 1 (y.log:Int)=S.take.fl s from M.o.2.2] at this⊢;exact jm this
      have aaT:(bA S s 1 (y.log:Int)).2.fL:=by
       rw [show bA S s 1 (y.log:Int)=S.take.fl s from M.o.2.2];exact Fn.o.take.fl s
      have aaU:∀i,i<s->(bA S s 1 (y.log:Int)).2.now i=S.now i:=λi Q=>by
       rw [show bA S s 1 (y.log:Int)=S.take.fl s from M.o.2.2];exact eY (S:=S.take) ⟨K.o.ok.len,K.o.ok.lo,K.o.ok.hi,K.o.ok.puts,K.o.ok.fuse⟩ Q
      clear nA ev Pm bV;have ae0:w2.heap.size<=kl:=(by omega);have ae1:(fh S 1 y.log hd).f+2+(fh S 1 y.log hd).n<=y.home:=(by show 1+2+y.log<=y.home;rw [a.o];exact Nat.le_of_eq (by show 1+2+u32 (S.now 0) 12=3+u32 (S.now 0) 12;omega));have JA:S.num 1<((fh S 1 y.log hd).top+1)*4294967296:=EF M.o.1;obtain⟨m,Yq⟩:∃m,m=(bA S s 1 (y.log:Int)).2:=⟨_,rfl⟩;rw [<-Yq] at kt aaS aaT aaU;have oV:=yh Yq;have Tm:m.num 1<((fh S 1 y.log hd).top+1)*4294967296:=(by rw [vI (S:=S) (S':=m) (aaU 1 (by omega)) (aaU 2 (by omega))];exact JA);have hp0:m.puts.length=0:=(by rw [aaS];rfl);have Eo:∀q∈CM.bT [] ps,y.home+q.1<s/\q.2.length=512:=λq H=>⟨by have:=HPk.o q (eS H);have:=I.1;omega,(Je.o.pl.len q (eS H)).1⟩;have UI:=λq H=>(Je.o.pl.len q (eS H)).2;have hyh:3<=y.home:=(by rw [a.o];show 3<=3+u32 (S.now 0) 12;omega);clear Yq aaS HCl;by_cases q0:rs= []
      .have dl:¬(0:Int)<(rs.length:Int):=(by rw [q0];decide);have I7:Yh (em m s y (CM.bT [] ps) rs=(0,m)):=yh (by unfold em;rw [aG q0]);clear q0;have bw:=Aj kt BK G.o OY aaT (by omega) (λ_ _=>Tm);have rW:=sX (S:=m) G.o;have td:=Av (L:=fh S 1 y.log hd) (S:=m) (s:=s) (kt).ok rfl (by show 1+1<s;omega) Tm G.o.top;have Im:Yh (j0 S s ((fh S 1 y.log hd).start m s).1 ((fh S 1 y.log hd).start m s).2.1):=yh (.inr ⟨K9.o,HF.o, .inr ⟨by rw [<-a.o];exact N.o,rs,hd,by rw [<-a.o];exact A.o, .inr ⟨CM.bT [] ps,by rw [<-a.o];exact uR, .inr ⟨by rw [<-a.o,<-oV.o,I7.o],by rw [<-a.o,<-oV.o,I7.o],by rw [<-a.o,<-oV.o,I7.o]⟩⟩⟩⟩);have Tn:Yh (sY S s ((fh S 1 y.log hd).start m s).2.2):=yh ⟨rs,hd,CM.bT [] ps,by rw [<-a.o];exact A.o,by rw [<-a.o];exact uR,by rw [<-a.o,<-oV.o,I7.o]⟩;have J:=yh rW;by_cases C:((fh S 1 y.log hd).start m s).1=0
       .have ds:(((fh S 1 y.log hd).start m s).1 != 0)=false:=(by rw [C];rfl);have WS:=yh C;clear C td rW;go_wp2_with fail;refine pj bw λE oM C4 jV=>?_;have hz8:=jV.size;have vN:=(jV.block d.heap.size (by omega) (λz=>by rcases z with z|z;(have:=ML _ z;omega);omega)).trans Il;have l0:E.cell? (aD d.heap.size 0)=some (iV (y.log:Int)):=aM vN;have l1:E.cell? (aD d.heap.size 1)=some (iV (y.home:Int)):=bG vN;have l2:E.cell? (aD d.heap.size 2)=some (iV (y.blocks:Int)):=bK vN;have l3:E.cell? (aD d.heap.size 3)=some (iV (y.nodes:Int)):=fQ vN;have l4:E.cell? (aD d.heap.size 4)=some (iV (y.data:Int)):=gG vN;have l:=yh (aH oM (aH C4 jV));clear bw oM C4 jV vN;go_wp2;go_ret2;have mc:=Im.o;rw [WS.o] at mc;exact eI.done a.o ML mc Tn.o (λ_ h=> .inl h) WR ae0 OY (by omega) l.o.1 l.o.2.1 l.o.2.2 (J.o WS.o).1 (J.o WS.o).2 I.1 (by rw [MJ];exact ae1)
       .have ds:(((fh S 1 y.log hd).start m s).1 != 0)=true:=(by rw [gA];exact C);obtain⟨WS,h33⟩:=bU C (td.resolve_left C);clear C td rW;go_wp2_with fail;refine pj bw λE oM C4 jV=>?_;have hz8:=jV.size;have l:=yh (aH oM jV);clear bw oM C4 jV;go_wp2;go_ret2;have mc:=Im.o;rw [h33.out] at mc;exact eI.fail (F7:=more F wr E) ML mc (by decide) l.o.1 (λj b=>by rcases b with b|b;exact .inl b;exact .inr ⟨by omega,b.2⟩) (WR.trans l.o.2 (λj b=>by rcases b with b|b;exact .inl b;exact .inr (by omega)))
      .have dl:(0:Int)<(rs.length:Int):=(by have:=List.length_pos_iff.2 q0;omega);have WT:=Af (y:=y) kt Je.o.pl.pv (λg hg hF=>by have:=ML _ hF;rcases hg with hg|hg;omega;have:=Je.o.lo g hg;omega) I.1 HPk.o (by omega) (by omega);obtain⟨b1,b2,b3,b4,b5⟩:=eC (h0:=y.home) (ms:=CM.bT [] ps) kt.ok Eo;have hYp:=eF m s y.home (CM.bT [] ps);have hYb:=kr aaT s y.home UI;have hol:(CM.bT [] ps).length<=2048:=by
        rcases CM.length_le (n:=2048) (mH ps) (λq H=>by have:=(Eo q H).1;omega) 0 (λ_ _=>dV _) with h1|h1
        .omega
        .rw [h1];simp
       have kU:em m s y (CM.bT [] ps) rs=if (aE m s y.home (CM.bT [] ps)).1≠0 then aE m s y.home (CM.bT [] ps) else (aE m s y.home (CM.bT [] ps)).2.fl s:=(by unfold em;rw [aB q0]);have l0:wr.cell? (aD d.heap.size 0)=some (iV (y.log:Int)):=aM Il;have l1:wr.cell? (aD d.heap.size 1)=some (iV (y.home:Int)):=bG Il;have l2:wr.cell? (aD d.heap.size 2)=some (iV (y.blocks:Int)):=bK Il;have l3:wr.cell? (aD d.heap.size 3)=some (iV (y.nodes:Int)):=fQ Il;have l4:wr.cell? (aD d.heap.size 4)=some (iV (y.data:Int)):=gG Il;generalize hY9:aE m s y.home (CM.bT [] ps)=Y at*;clear hY9 q0;by_cases qy:Y.1=0
       .have dy:(Y.1 == 0)=true:=(by rw [qy];rfl);rw [aB (λh=>h qy)] at kU;clear qy;go_wp2_with fail;refine fR WT λX pE jD=>?_;have jW:=fC pE (by omega);have Ru:=jD.size;have aj3:=(jD.block d.heap.size (by omega) (λz=>by have:=ML _ z;omega)).trans Il;have MD:=BK.aw jD OY;have AB:=WR.trans jD (λ_ h=> .inl h);have WU:=λi (Q:i<s)=>eY b3 Q;have hZb:=hYb.fl s;have hZp:=l9 Y.2 s;have HF6:=yh (λ(j:Nat) (b:more F wr X j)=>(b.imp id (λh=>⟨by omega,h.2⟩):more F w2 X j));generalize hZ9:Y.2.fl s=Z at*;have HZ9:=yh hZ9;clear WT pE jD hZ9 l0 l1 l2 l3 l4;by_cases qz:Z.1=0
        .have dz:(Z.1 == 0)=true:=(by rw [qz];rfl);have I7:Yh (em m s y (CM.bT [] ps) rs=(0,Z.2)):=yh (by rw [kU];exact Prod.ext qz rfl);clear qz kU;go_wp2_with fail;refine fR jW λw7 nL gO=>?_;have hz7:=gO.size;have To:¬more F wr X kl:=λh=>h.elim OY (λh=>by omega);have C3:=MD.aw gO To;have aj4:=(gO.block d.heap.size (by omega) (λz=>by rcases z with z|z;(have:=ML _ z;omega);omega)).trans aj3;have BW:=AB.trans gO (λj b=>b.imp id (λh=>by omega));have HF7:=yh (λ(j:Nat) (b:more F wr X j)=>((HF6.o j b).imp id (λh=>⟨h.1,by omega⟩):more F w2 w7 j));have Yr:Z.2.num 1<((fh S 1 y.log hd).top+1)*4294967296:=by
          rw [vI (S:=m) (S':=Z.2) ((WU 1 (by omega)).trans (b5 1 (λq H e=>by omega))) ((WU 2 (by omega)).trans (b5 2 (λq H e=>by omega)))];exact Tm
         clear jW gO b1 b2 b3 b4 b5 Eo UI WU kt BK Il;have bw:=Aj nL C3 G.o To hZb (by omega) (λ_ _=>Yr);have rW:=sX (S:=Z.2) G.o;have td:=Av (L:=fh S 1 y.log hd) (S:=Z.2) (s:=s) (nL).ok rfl (by show 1+1<s;omega) Yr G.o.top;have Im:Yh (j0 S s ((fh S 1 y.log hd).start Z.2 s).1 ((fh S 1 y.log hd).start Z.2 s).2.1):=yh (.inr ⟨K9.o,HF.o, .inr ⟨by rw [<-a.o];exact N.o,rs,hd,by rw [<-a.o];exact A.o, .inr ⟨CM.bT [] ps,by rw [<-a.o];exact uR, .inr ⟨by rw [<-a.o,<-oV.o,I7.o],by rw [<-a.o,<-oV.o,I7.o],by rw [<-a.o,<-oV.o,I7.o]⟩⟩⟩⟩);have Tn:Yh (sY S s ((fh S 1 y.log hd).start Z.2 s).2.2):=yh ⟨rs,hd,CM.bT [] ps,by rw [<-a.o];exact A.o,by rw [<-a.o];exact uR,by rw [<-a.o,<-oV.o,I7.o]⟩;have J:=yh rW;by_cases C:((fh S 1 y.log hd).start Z.2 s).1=0
         .have ds:(((fh S 1 y.log hd).start Z.2 s).1 != 0)=false:=(by rw [C];rfl);have WS:=yh C;clear C td rW;go_wp2_with fail;refine pj bw λE oM C4 jV=>?_;have hz8:=jV.size;have vN:=(jV.block d.heap.size (by omega) (λz=>by rcases z with z|z;(rcases z with z|z;(have:=ML _ z;omega);omega);omega)).trans aj4;have l0:E.cell? (aD d.heap.size 0)=some (iV (y.log:Int)):=aM vN;have l1:E.cell? (aD d.heap.size 1)=some (iV (y.home:Int)):=bG vN;have l2:E.cell? (aD d.heap.size 2)=some (iV (y.blocks:Int)):=bK vN;have l3:E.cell? (aD d.heap.size 3)=some (iV (y.nodes:Int)):=fQ vN;have l4:E.cell? (aD d.heap.size 4)=some (iV (y.data:Int)):=gG vN;have l:=yh (aH oM (aH C4 jV));clear bw oM C4 jV vN;go_wp2;go_ret2;have mc:=Im.o;rw [WS.o] at mc;exact eI.done a.o ML mc Tn.o HF7.o BW ae0 To (by omega) l.o.1 l.o.2.1 l.o.2.2 (J.o WS.o).1 (J.o WS.o).2 I.1 (by rw [MJ];exact ae1)
         .have ds:(((fh S 1 y.log hd).start Z.2 s).1 != 0)=true:=(by rw [gA];exact C);obtain⟨WS,h33⟩:=bU C (td.resolve_left C);clear C td rW;go_wp2_with fail;refine pj bw λE oM C4 jV=>?_;have hz8:=jV.size;have l:=yh (aH oM jV);clear bw oM C4 jV;go_wp2;go_ret2;have mc:=Im.o;rw [h33.out] at mc;exact eI.fail (F7:=more (more F wr X) w7 E) ML mc (by decide) l.o.1 (λj b=>by rcases b with b|b;exact(HF7.o j b).imp id (λh=>⟨h.1,by omega⟩);exact .inr ⟨by omega,b.2⟩) (BW.trans l.o.2 (λj b=>by rcases b with b|b;exact(HF7.o j b).imp id (λh=>h.1);exact .inr (by omega)))
        .have dz:(Z.1 == 0)=false:=(by rw [fJ];exact qz);have dn:(Z.1 != 0)=true:=(by rw [gA];exact qz);have ly:Z.1=3:=by
          have h9:(Y.2.fl s).1≠0:=(by rw [HZ9.o];exact qz);have:=(lu h9).2.2;rwa [HZ9.o] at this
         have HSO:Yh (j0 S s 3 Z.2):=yh (.inr ⟨K9.o,HF.o, .inr ⟨by rw [<-a.o];exact N.o,rs,hd,by rw [<-a.o];exact A.o, .inr ⟨CM.bT [] ps,by rw [<-a.o];exact uR, .inl ⟨by rw [<-a.o,<-oV.o,kU];exact ly,by decide,by rw [<-a.o,<-oV.o,kU]⟩⟩⟩⟩);clear qz ly kU;go_wp2_with fail;refine fR jW λw7 nL gO=>?_;have hz7:=gO.size;have BW:=AB.trans gO (λj b=>b.imp id (λh=>by omega));have l:=yh (aH nL BW);clear jW nL gO BW b1 b2 b3 b4 b5 Eo UI WU;go_wp2;go_ret2;exact eI.fail (F7:=more F wr X) ML HSO.o (by decide) l.o.1 (λj b=>(HF6.o j b).imp id (λh=>⟨h.1,by omega⟩)) l.o.2
       .have dy:(Y.1 == 0)=false:=(by rw [fJ];exact qy);have dn:(Y.1 != 0)=true:=(by rw [gA];exact qy);rw [aG qy] at kU;have hy3:=b1.resolve_left qy;have HSO:Yh (j0 S s 3 Y.2):=yh (.inr ⟨K9.o,HF.o, .inr ⟨by rw [<-a.o];exact N.o,rs,hd,by rw [<-a.o];exact A.o, .inr ⟨CM.bT [] ps,by rw [<-a.o];exact uR, .inl ⟨by rw [<-a.o,<-oV.o,kU];exact hy3,by decide,by rw [<-a.o,<-oV.o,kU]⟩⟩⟩⟩);clear qy hy3 kU;go_wp2_with fail;refine fR WT λX pE jD=>?_;have Ru:=jD.size;have AB:=WR.trans jD (λ_ h=> .inl h);have l:=yh (aH pE AB);clear WT pE jD AB b1 b2 b3 b4 b5 Eo UI l0 l1 l2 l3 l4;go_wp2;go_ret2;exact eI.fail (F7:=more F wr X) ML HSO.o (by decide) l.o.1 (λj b=>b.imp id (λh=>⟨by omega,h.2⟩)) l.o.2
   .rw [aG q] at uF;subst uF;have dq:((bA S s 1 (y.log:Int)).1 != 0)=true:=(by rw [gA];exact q);obtain⟨l,N⟩:=bU (aH P EK) q;clear P dW EK q aaP;generalize hLO:bA S s 1 (y.log:Int)=LO at*;have HLO:=yh hLO;clear hLO;go_wp2;go_ret2;refine⟨LO.1,LO.2, .inr ⟨K9.o,HF.o, .inl ⟨by rw [<-a.o];exact congrArg Prod.fst HLO.o,N.o,by rw [<-a.o];exact(congrArg Prod.snd HLO.o).symm⟩⟩,l.o.2, .inl ⟨N.o,rfl,l.o.1.mono (λ_ h=> .inl h) (λk hk=>hk.elim (λh=>l.o.1.lt k h) (λh=>h.2))⟩⟩
  .have WH:(((u32 (S.now 0) 8:Nat):Int) != ((s:Nat):Int))=true:=(by rw [gA];omega);have sW:Yh (¬mI (S.now 0) s):=yh (λh=>oC h.2);go_quiet (first|(go_at_call 52;refine Calls.quiet_of_same (nP _)));clear c0 nP;go_wp2;go_ret2;exact eI.bad K.o HF.o sW.o (HW.o.2.1.trans (below_drewN (bi _ _) _))
 .have sW:Yh (¬mI (S.now 0) s):=yh (λh=>h0 (HSi.o.1 h.1));obtain⟨W,O⟩:=bQ (W0.alloc (.cells #[.int .i64 0, .int .i64 0, .int .i64 0] 40));have UM:bW w2 W:=by rw [O];exact bF.alloc bF.size _
  have CW:=yh UM;clear h0 bF;go_wp2_with fail;rw [<-O];clear O UM;go_quiet (fail);go_wp2;go_ret2;exact eI.bad K.o HF.o sW.o (CW.o.trans (below_drewN (bi _ _) _))
end
end
section
section
variable {w w' U wx wy wz:World} {F:Nat->Prop} {r s:Nat} {S S':DS}
def rn (xM:aa F U wx) (b:bW wx wy) (hd:aC wz (more (more F U wx) wy wz) r s S') (c:aa (more F U wx) wy wz):aC wz (more F U wz) r s S'/\aa F U wz:=by
 obtain⟨h0,d,e⟩:=kE xM.size b.size c.size;refine⟨hd.mono (λj a=>?_) (λj a=>?_),(xM.trans (aa.ah (λ_=>False) b) (λ_ h=>h.elim)).trans c (λj a=>a.imp id (λh=>h.1))⟩
 .rcases a with (a|a)|a
  .exact .inl a
  .exact .inr ⟨a.1,by omega⟩
  .exact .inr ⟨by omega,a.2⟩
 .exact a.elim (λh=>hd.lt j (.inl (.inl h))) (λh=>h.2)
def MM (xM:aa F U wx) (hd:aC wy (more F U wx) r s S') (b:aa (more F U wx) wx wy):aC wy (more F U wy) r s S'/\aa F U wy:=by
 have c:=b.size;refine⟨hd.mono (λj a=>a.imp id (λh=>⟨h.1,by omega⟩)) (λj a=>a.elim (λh=>hd.lt j (.inl h)) (λh=>h.2)),xM.trans b (λj a=>a.imp id (λh=>h.1))⟩
def te (w:World) (F:Nat->Prop) (r s:Nat) (R:Int×DS) (e:Ending) (w':World):Prop:=e= .returned (iV R.1)/\aC w' (more F w w') r s R.2/\aa F w w'
def te.of {R:Int×DS} (a:bW w U) (h:aC w' (more F U w') r s R.2/\aa F U w'):te w F r s R (.returned (iV R.1)) w':=⟨rfl,uj a h.1 h.2⟩
def te.same (hd:aC w F r s S) (a:bW w w'):te w F r s (x,S) (.returned (iV x)) w':=
   ⟨rfl,(hd.later a).mono (λ_ h=> .inl h) (λk c=>c.elim (λb=>(hd.later a).lt k b) (λh=>h.2)),aa.ah _ a⟩
def OZ {m:Nat} (h:n<=m) (c:(aE S s a (fb n)).1≠0):aE S s a (fb m)=aE S s a (fb n):=by
 obtain⟨R,b⟩:=CT h;rw [b,fq,aG c]
def Xr (c:S.fuse≠0) (d:1<=s):ma S s=(S.take.wr s 0 512 (zs 512)).2.fl s/\(S.take.wr s 0 512 (zs 512)).1=0:=by
 have h0:(S.take.wr s ((0+0:Nat):Int) 512 (zs 512)).1=0:=by rw [oW (S:=S.take) (k:=0+0) c (by omega)]
 have b:aE S.take s 0 (fb 1)=S.take.wr s ((0+0:Nat):Int) 512 (zs 512):=by
  have:=qu (S:=S.take) (s:=s) (h0:=0) (a:= []) rfl (0,zs 512);exact this
 refine⟨?_,h0⟩;unfold ma eB;rw [b,aB (λh=>h h0)];rfl
def EM (hd:aC w F r s S) (dD:S.fL) (a b c:Int) (aU:S.puts.length+6000<=4000000000000):
  Calls prog 19 #[pQ r, .agg #[iV a,iV b,iV c]] w λe w'=>te w F r s (bY S s a b c) e w':=by
 obtain⟨R,j⟩:=bQ (bY S s a b c);rw [<-j];unfold bY at j;obtain⟨W,E⟩:=bQ (w.alloc (.cells #[.int .i64 a, .int .i64 b, .int .i64 c] 40));have EN:bW w W:=by rw [E];exact(bi w.heap.size w).alloc (bS _) _
 have BX:W.heap[w.heap.size]? =some (.cells #[.int .i64 a, .int .i64 b, .int .i64 c] 40 (0,0)):=by rw [E];exact heap_alloc_new _ _
 have Hu:W.heap.size=w.heap.size+1:=by rw [E,World.size_alloc]
 obtain⟨yy,lz,M,X,CW,MA⟩:=jE hd.ok.lo hd.ok.hi (kn (hd.later EN)) (yh hd) (yh EN) (yh BX);have Fn:=yh dD;have rL:=hd.lt;clear hd dD EN BX;by_cases H:S.fuse=0
 .rw [show (S.fuse == 0)=true by simp [H]] at M;rw [aG H] at j;have d:=yh j;clear j H;go_in;go_wp2_with fail;rw [<-E];clear E;refine bM M λw1 bO=>?_;subst bO;clear M;go_wp2;go_ret;rw [d.o];exact te.same X.o CW.o
 .rw [show (S.fuse == 0)=false by simp [H]] at M;rw [aB H] at j;have HF:=yh H;clear H;have x0:W.cell? (aD w.heap.size 0)=some (iV a):=aM MA.o;have x1:W.cell? (aD w.heap.size 1)=some (iV b):=bG MA.o;have x2:W.cell? (aD w.heap.size 2)=some (iV c):=bK MA.o;have py:=vM a b c W;go_in;go_wp2_with fail;rw [<-E];clear E;refine bM M λw1 bO=>?_;subst bO;clear M;go_wp2_with fail;refine py.mono ?_;rintro e V ⟨v,x,rfl,UJ,MK⟩;have Yp:=MK.size;clear py;have bd:=CW.o.trans (MK.mono (by omega));rcases UJ with ⟨J,rfl,rfl⟩|⟨J,rfl,rfl⟩
  .obtain⟨m,t⟩:=bQ (V.alloc (.cells #[.int .i64 b, .int .i64 (3+b), .int .i64 (a-(3+b)), .int .i64 c, .int .i64 (2+c / 4)] 75));have UO:bW w m:=(by rw [t];exact bd.alloc (by omega) _);have y0:m.cell? (aD w.heap.size 0)=some (iV a):=by
    have e1:bW w1 m:=(by rw [t];exact MK.alloc Yp _);exact iF e1 (by omega) x0
   have y1:m.cell? (aD w.heap.size 1)=some (iV b):=by
    have e1:bW w1 m:=(by rw [t];exact MK.alloc Yp _);exact iF e1 (by omega) x1
   have y2:m.cell? (aD w.heap.size 2)=some (iV c):=by
    have e1:bW w1 m:=(by rw [t];exact MK.alloc Yp _);exact iF e1 (by omega) x2
   go_upto_region 4 with fail
   rw [<-t];clear t MK bd x0 x1 x2;have nP:=λk=>mA ((X.o.later UO).later (below_drewN (bi _ _) k));have A:=yh UO;clear UO;by_cases N:a=(s:Int)
   .have EO:(a != (s:Int))=false:=(by rw [N];simp);rw [aG ⟨J,N⟩] at j;go_quiet (first|(go_at_call 52;refine Calls.quiet_of_same (nP _)));rename_i nq _;have hq:bW m (m.drewN nq):=below_drewN (bi _ _) nq;have l:=yh (A.o.trans (hq.mono A.o.size));have z0:=dw (aa.ah (λ_=>False) hq) (λh=>h) y0;have z1:=dw (aa.ah (λ_=>False) hq) (λh=>h) y1;have z2:=dw (aa.ah (λ_=>False) hq) (λh=>h) y2;clear A nP hq y0 y1 y2;generalize m.drewN nq=U at*;obtain⟨an,C,cn,hae,rfl,rfl⟩:=Mz J;rw [Int.toNat_natCast,Int.toNat_natCast] at j;have K:=J;rw [N] at z0 K;obtain⟨d,HG⟩:=bU j K;clear j J K N EO hae;go_wp2_with fail;refine(zy (X.o.later l.o)).mono ?_;rintro e w3 ⟨rfl,G,aZ⟩;have hze:=qY w3;go_wp2_with fail;refine fR hze λw4 wL fw=>?_;have d3:aC w3 (more F U w3) r s S.take:=G.mono (λ_ h=> .inl h) (λk hk=>hk.elim (λh=>G.lt k h) (λh=>h.2));have htp:S.take.puts.length=S.puts.length:=rfl;obtain⟨xZ,Wp,I,lO,jU⟩:=eK (iE (d3.later fw) 0 (some (aD w3.heap.size 0)) 512 512 (zs 512) (by have:=wL.src;rw [List.length_replicate] at this;exact this) (by omega)) (jh S.take s 0 512 (zs 512)) (Xr HF.o yy) (yh aZ) (yh fw);clear hze wL fw d3 G aZ;go_wp2_with fail;refine fR xZ λw5 jG dX=>?_;obtain⟨d5,k5⟩:=rn lO.o jU.o jG dX;have jW:=fC d5 (by omega);rw [<-I.1] at jW;have Ys:=(Fn.o.take.wr s 0 512 (Gd 512)).fl s;have hfp:=l9 (S.take.wr s 0 512 (zs 512)).2 s;rw [<-I.1] at Ys hfp;clear xZ jG dX I;generalize (S.take.wr s 0 512 (zs 512))=Q1 at*;go_wp2_with fail;refine fR jW λw6 pE jD=>?_;obtain⟨d6,k6⟩:=MM k5 pE jD;obtain⟨WV,Ow,Z,HZ2,Uv⟩:=eK (yh (aH d6 k6)) (yh z0) (yh z1) (yh z2) d.o;unfold lI mb jS nc at Uv;clear jW pE jD d5 k5 d6 k6 z0 z1 z2 d;generalize ma S s=g at*;have Kr:¬F w.heap.size:=λh=>by have:=rL _ h;omega
    have Dd:∀{wx:World} {o:Nat} {u:Value},aa F U wx->U.cell? (aD w.heap.size o)=some u->wx.cell? (aD w.heap.size o)=some u:=λhk hc=>dw hk Kr hc;by_cases O:g.1=0
    .rw [aB (λh=>h O)] at Uv;obtain⟨HP0,zm⟩:=bU O Uv;clear Uv O;go_wp2;go_loopw [7,8] (λf i wr=>∃n:Nat,n<=s-1/\i=iV (1+(n:Int))/\f=iV (aE g.2 s 1 (fb n)).1/\aC wr (more F U wr) r s (aE g.2 s 1 (fb n)).2/\aa F U wr) (λ_ i _=>s-(intOf i).toNat);case atStart=>exact⟨0,dV _,rfl,by rw [HP0.o];rfl,WV.o.1,WV.o.2⟩
     case round=>
      obtain⟨n,hn,rfl,rfl,kt,Bd⟩:=hrel;have z0r:=Dd Bd Ow.o;have hsp:=eF g.2 s 1 (fb n);rw [Ad] at hsp;by_cases D:(aE g.2 s 1 (fb n)).1=0
      .have de:((aE g.2 s 1 (fb n)).1 == 0)=true:=(by rw [D];rfl);by_cases qn:1+n<s
       .have qn':1+(n:Int)<(s:Int):=(by omega);have ie:=qu D (n,zs 512);rw [<-CS,show ((1+n:Nat):Int)=1+(n:Int) by omega] at ie;obtain⟨sP,CV⟩:=bU kt Bd;clear kt Bd;go_wp2_with fail;refine(qY wr).mono ?_;rintro e w7 ⟨rfl,hr7,xx⟩;have xZ:=iE (sP.o.later xx) (1+(n:Int)) (some (aD wr.heap.size 0)) 512 512 (zs 512) (by have:=hr7.src;rw [List.length_replicate] at this;exact this) (by omega);rw [<-ie] at xZ;have Fp:=yh xx;clear hr7 xx ie;go_wp2_with fail;refine fR xZ λw8 oM jV=>?_;have y:=yh (rn CV.o Fp.o oM jV);clear xZ oM jV;go_wp2;go_roundw;case rel=>exact⟨n+1,by omega,by first|rfl|go_num|(congr 1;omega),rfl,y.o⟩
        case measure=>simp [intOf];omega
       .have qn':¬1+(n:Int)<(s:Int):=(by omega);obtain rfl:n=s-1:=(by omega);have hsw:eB g.2 s 1 (s-1)=(aE g.2 s 1 (fb (s-1))).2.fl s:=(by unfold eB;rw [aB (λh=>h D)]);have Gl:=zm.o;have jW:=fC kt (by omega);rw [<-hsw] at jW;have aj8:=ku Ys s 1 (s-1);have aq9:=l5 g.2 s 1 (s-1);have CV:=yh Bd;clear hsw kt Bd zm;generalize eB g.2 s 1 (s-1)=P2 at*;by_cases L:P2.1=0
        .have d2:(P2.1 == 0)=true:=(by rw [L];rfl);rw [aB (λh=>h L)] at Gl;clear L;go_wp2_with fail;refine fR jW λw7 nL gO=>?_;obtain⟨d7,k7⟩:=MM CV.o nL gO;have z17:=Dd k7 Z.o;have z:=GY d7 aj8 1 (C:Int) (by omega);have arb:=uh P2.2 s 1 (C:Int) (by have:=HG.o.1.2;omega);have Y:=yh k7;clear jW nL gO d7 k7 z0r;generalize cD P2.2 s 1 (C:Int)=P3 at*;by_cases P:P3.1=0
         .have d3:(P3.1 == 0)=true:=(by rw [P];rfl);rw [aB (λh=>h P)] at Gl;clear P;go_wp2_with fail;refine fR z λw8 oM jV=>?_;obtain⟨d8,k8⟩:=rn Y.o (bi _ _) oM jV;have z18:=Dd k8 Z.o;have z08:=Dd k8 Ow.o;have z28:=Dd k8 HZ2.o;have aaW:=yh (aH d8 k8);clear z oM jV d8 k8 z17;go_wp2_with fail;refine(uD s C cn w8 HG.o).mono ?_;rintro e w9 ⟨v9,rfl,hm9⟩;obtain⟨g9,c9,rfl,hg9,Uj,A5⟩:=hm9.out (kx s C cn);have xZ:=iE (aaW.o.1.later A5) 0 (some (aD g9 0)) 512 c9 (gV s C cn) (by have:=Uj.src;rwa [kx] at this) (by omega);have arc:=jh P3.2 s 0 512 (gV s C cn);have T:=yh A5;clear hm9 Uj A5;generalize P3.2.wr s 0 512 (gV s C cn)=P4 at*;by_cases Q:P4.1=0
          .have d4:(P4.1 == 0)=true:=(by rw [Q];rfl);rw [aB (λh=>h Q)] at Gl;have d:=yh Gl;clear Q Gl;go_wp2_with fail;refine fR xZ λwa p q=>?_;obtain⟨da,ka⟩:=rn aaW.o.2 T.o p q;have ae5:=fC da (by omega);have HKa:=yh ka;clear xZ p q da ka;go_wp2_with fail;refine fR ae5 λwb hdb pb=>?_;have y:=yh (MM HKa.o hdb pb);clear ae5 hdb pb;go_wp2;go_ret;rw [d.o];exact te.of l.o y.o
          .have d4:(P4.1 == 0)=false:=(by rw [fJ];exact Q);rw [aG Q] at Gl;have d:=yh Gl;clear Q Gl;go_wp2_with fail;refine fR xZ λwa p q=>?_;have y:=yh (rn aaW.o.2 T.o p q);clear xZ p q;go_wp2;go_ret;rw [d.o];exact te.of l.o y.o
         .have d3:(P3.1 == 0)=false:=(by rw [fJ];exact P);rw [aG P] at Gl;have d:=yh Gl;clear P Gl;go_wp2_with fail;refine fR z λw8 oM jV=>?_;have y:=yh (rn Y.o (bi _ _) oM jV);clear z oM jV;go_wp2;go_ret;rw [d.o];exact te.of l.o y.o
        .have d2:(P2.1 == 0)=false:=(by rw [fJ];exact L);rw [aG L] at Gl;have d:=yh Gl;clear L Gl;go_wp2_with fail;refine fR jW λw7 nL gO=>?_;have y:=yh (MM CV.o nL gO);clear jW nL gO;go_wp2;go_ret;rw [d.o];exact te.of l.o y.o
      .have de:((aE g.2 s 1 (fb n)).1 == 0)=false:=(by rw [fJ];exact D);have d:Yh (R=aE g.2 s 1 (fb n)):=yh (by
        have h9:eB g.2 s 1 (s-1)=aE g.2 s 1 (fb n):=(by unfold eB;rw [(OZ hn D),aG D]);rw [zm.o,h9,aG D])
       have sP:=yh (aH kt Bd);clear kt Bd D;by_cases qn:1+(n:Int)<(s:Int);all_goals
        go_wp2;go_ret;rw [d.o];exact te.of l.o sP.o
    .rw [aG O] at Uv;have d:=yh Uv;have dq:(g.1 == 0)=false:=(by rw [fJ];exact O);have z06:=Dd WV.o.2 Ow.o;clear Uv O;go_wp2;go_loopw [7,8] (λf i wr=>f=iV g.1/\i=iV 1/\wr=w6) (λ_ _ _=>0);case atStart=>exact⟨rfl,rfl,rfl⟩
     case round=>
      obtain⟨rfl,rfl,rfl⟩:=hrel;by_cases L:(1:Int)<(s:Int);all_goals
       go_wp2;go_ret;rw [d.o];exact te.of l.o WV.o
   .have EO:(a != (s:Int))=true:=(by rw [gA];exact N);rw [aB (λh=>N h.2)] at j;have d:=yh j;clear j;go_quiet (first|(go_at_call 52;refine Calls.quiet_of_same (nP _)));clear nP y0 y1 y2;go_wp2;go_ret;rw [d.o];exact te.same X.o (A.o.trans ((below_drewN (bi _ _) _).mono A.o.size))
  .obtain⟨m,t⟩:=bQ (V.alloc (.cells #[.int .i64 0, .int .i64 0, .int .i64 0, .int .i64 0, .int .i64 0] 75));have UO:bW w m:=(by rw [t];exact bd.alloc (by omega) _);rw [aB (λh=>J h.1)] at j;obtain⟨d,A⟩:=bU j UO
   go_upto_region 4 with fail
   rw [<-t];clear t MK bd x0 x1 x2 j J UO;go_quiet (fail);go_wp2;go_ret;rw [d.o];exact te.same X.o (A.o.trans ((below_drewN (bi _ _) _).mono A.o.size))
end
end
section
section
variable {S S':DS} {s t i:Nat} {ls:List LG} {L:LG} {G:SG}
def V.Inv.idle (h:V.Inv S s ls t) (i9:∀M∈ls,M.life<S.life) (c:S'.Ok s) (pZ:S'.fL) (f:S'.puts.length<=6000) (d:S'.fuse≠0->S'.puts.length<=256) (b:S'.life=S.life):V.Inv S' s ls t:=
   ⟨c,pZ,f,d,by rw [b];exact h.l0,by rw [b];exact h.lt,λM a=>by rw [b];exact h.ol M a,h.li,λM a e=>by have:=i9 M a;omega⟩
def AX (h:S.Ok s):(S.fl s).2.Ok s/\(S.fl s).2.life=S.life/\((S.fl s).1≠0->(S.fl s).2.fuse=0/\(S.fl s).2.puts.length<=S.puts.length)/\((S.fl s).1=0->(S.fl s).2.puts= []):=
   ⟨rY h,fX _ _,λc=>by obtain⟨a,b,_⟩:=lu c;rw [a];exact⟨b,bS _⟩,jm⟩
def qF (h:S.Ok s) (r:a+n<=s):(eB S s a n).2.Ok s/\(eB S s a n).2.life=S.life/\((eB S s a n).1≠0->(eB S s a n).2.fuse=0)/\((eB S s a n).1=0->(eB S s a n).2.puts= []):=by
 obtain⟨o,b,c,e,p⟩:=eC (h0:=a) (ms:=fb n) h (λq d=>by
  unfold fb at d;obtain⟨i,m,rfl⟩:=List.mem_map.1 d;have:=List.mem_range.1 m;exact⟨by show a+i<s;omega,bH 512⟩)
 unfold eB;split
 .rename_i q;exact⟨c,b,e,λh0=>absurd h0 q⟩
 .obtain⟨f,g,j,k⟩:=AX c;exact⟨f,g.trans b,λl=>(j l).1,k⟩
def rX (h:S.Ok s) (vX:0<=S.life) {t:Nat} (bq:S.life<=t) (k:t<=1000000000000000000) (d:S.fuse≠0) (j:S.puts= []) (f n:Int):(cD S s f n).2.Ok s/\(S.life<=(cD S s f n).2.life)/\((cD S s f n).1=0->(cD S s f n).2.puts= []):=by
 unfold cD;split
 .exact⟨h,Int.le_refl _,λ_=>j⟩
 .rename_i e;obtain⟨_,a,b,rfl,rfl,oE,ar,bd⟩:=fV (Decidable.of_not_not e);simp only [Int.toNat_natCast];have zv:=jy vX bq k;have du:S.take.Ok s:=⟨h.len,h.lo,h.hi,h.puts,h.fuse⟩;obtain⟨l,c,p,m⟩:=kP (f:=a) (n:=b) du oE;have oc:=l.trans zv;split
  .rename_i h0;exact⟨c,by omega,λi=>absurd i h0⟩
  .rename_i h0;obtain⟨o,q⟩:=m (Decidable.of_not_not h0);have fH:=(iU (cN S.take s a b).2 s a 4294967296).trans oc;refine⟨(nS c (by omega) _).1,by omega,λg=>?_⟩;exact(tY (s:=s) (f:=a) (N:=4294967296) c (by omega) (by omega) (by omega) (by rw [o];omega) g).2
def V.Inv.ae6 (h:V.Inv S s ls t) (ht:t+2<=1000000000000000000) (a b c:Int):V.Inv (bY S s a b c).2 s ls (t+2):=by
 unfold bY;split
 .exact h.step.step
 .rename_i U;split
  .rename_i W;obtain⟨po,hs⟩:=W;obtain⟨⟨l1,l2⟩,⟨n1,n2⟩,h3,s1,s2⟩:=po;have eh:1<=s:=(by omega);have pI:=h.take (by omega:t<=1000000000000000000);have Ai:S.take.life=S.life+1:=jy h.l0 h.lt (by omega);have i9:∀M∈ls,M.life<S.life+1:=λM y=>by have:=(h.ol M y).2;omega
   have uV:=h.p2 U;obtain⟨q,i,C,D⟩:=qF pI.ok (a:=0) (n:=1) (by omega);have r:=ku pI.pZ s 0 1;have K:=l5 S.take s 0 1;have X:S.take.puts.length=S.puts.length:=rfl;unfold lI;have P:ma S s=eB S.take s 0 1:=rfl;have Q:nc S s=eB (ma S s).2 s 1 (s-1):=rfl;have I:∀l,jS S s l=cD (nc S s).2 s 1 (l:Int):=λ_=>rfl;have R:∀l n,mb S s l n=(jS S s l).2.wr s 0 512 (gV s l n):=λ_ _=>rfl;rw [<-P] at q i C D r K;generalize ma S s=A at*;by_cases m:A.1≠0
   .rw [aG m];exact(pI.idle (by rw [Ai];exact i9) q r (by have:=h.p6;omega) (λc=>absurd (C m) c) i).step
   .rw [aB m];obtain⟨j,u,E,F⟩:=qF q (a:=1) (n:=s-1) (by omega);have v:=ku r s 1 (s-1);have w:=l5 A.2 s 1 (s-1);have lz:=h.ok.hi;rw [<-Q] at j u E F v w;generalize nc S s=p at*;by_cases o:p.1≠0
    .rw [aG o];exact(pI.idle (by rw [Ai];exact i9) j v (by rw [(D (Decidable.not_not.1 m))] at w;simp at w;omega) (λc=>absurd (E o) c) (u.trans i)).step
    .rw [aB o];have d:=F (Decidable.not_not.1 o);have Fd:=pI.idle (by rw [Ai];exact i9) j v (by rw [d];exact dV _) (λ_=>by rw [d];exact dV _) (u.trans i);by_cases Ff:p.2.fuse=0
     .have T:∀l,jS S s l=(3,p.2):=λl=>by
       rw [I];unfold cD cw;rw [aG Ff];simp
      rw [T,aG (by show (3:Int)≠0;decide)];exact Fd.step
     .obtain⟨G,L,H⟩:=rX j Fd.l0 Fd.lt (by omega) Ff d 1 ((b.toNat:Nat):Int);have PE:=Fd.format (by omega) 1 ((b.toNat:Nat):Int) G;rw [<-I] at G L H PE;have x:=R b.toNat c.toNat;generalize jS S s b.toNat=P3 at*;have ae7:∀M∈ls,M.life<P3.2.life:=λM y=>by have:=i9 M y;omega
      by_cases z:P3.1≠0
      .rw [aG z];exact PE
      .rw [aB z];have aaX:=kB P3.2 s 0 512 (gV s b.toNat c.toNat);have Wp:=jh P3.2 s 0 512 (gV s b.toNat c.toNat);have ae8:(gV s b.toNat c.toNat).length=512:=kx _ _ _;have si:Bytes (gV s b.toNat c.toNat):=(ia _ _ _).append (iR _ _);have f:=PE.pZ.wr s 0 512 si;have NL:(P3.2.wr s 0 512 (gV s b.toNat c.toNat)).2.Ok s:=by
        by_cases PG:P3.2.fuse=0
        .have:P3.2.wr s 0 512 (gV s b.toNat c.toNat)=(3,P3.2):=(by unfold DS.wr;rw [aG PG]);rw [this];exact PE.ok
        .exact tX (k:=0) PE.ok PG (by omega) ae8
       rw [<-x] at aaX Wp f NL;rw [(H (Decidable.not_not.1 z))] at Wp;generalize mb S s b.toNat c.toNat=g at*;have e:V.Inv g.2 s ls (t+2):=PE.idle ae7 NL f (by simp at Wp;omega) (λ_=>by simp at Wp;omega) aaX;by_cases J:g.1≠0
       .rw [aG J];exact e
       .rw [aB J];obtain⟨N,O,Y,Z⟩:=AX NL;refine e.idle (by rw [aaX];exact ae7) N (f.fl s) ?_ ?_ O
        .have:=l9 g.2 s;have:=e.p6;omega
        .intro _;have:=l9 g.2 s;simp at Wp;omega
  .exact h.step.step
end
end
section
section
variable {S S1 S2:DS} {s t:Nat} {ls:List LG} {L L':LG} {x y:Int}
def jQ.same {f UN:Nat} {Ba:List (List Int)} (a:jQ S f n rs hd) (b:jQ S f n Ba UN):rs=Ba/\hd=UN:=dF.unique a.t a.x b.t b.x
def j0.same (u:j0 S s x S1) (v:j0 S s y S2):x=y/\S1=S2:=by
 rcases u with ⟨n,p,rfl⟩|⟨u1,r,g⟩<;> rcases v with ⟨o,q,rfl⟩|⟨u2,t,i⟩
 .refine⟨?_,rfl⟩;rcases n with ⟨a,_,rfl⟩|⟨_,_,_,rfl⟩|⟨a,c,_,rfl⟩<;> rcases o with ⟨b,_,rfl⟩|⟨_,_,_,rfl⟩|⟨b,d,_,rfl⟩<;> first|rfl|exact absurd rfl p|exact absurd rfl q|exact absurd a b|exact absurd b a
 .exfalso;rcases n with ⟨a,_,_⟩|⟨_,_,_,rfl⟩|⟨_,c,_,_⟩
  .exact t a
  .exact p rfl
  .exact c u2
 .exfalso;rcases o with ⟨a,_,_⟩|⟨_,_,_,rfl⟩|⟨_,c,_,_⟩
  .exact r a
  .exact q rfl
  .exact c u1
 .rcases g with ⟨l,w,rfl⟩|⟨D,rs,hd,A,g⟩<;> rcases i with ⟨m,z,rfl⟩|⟨E,Ba,UN,C,i⟩
  .exact⟨l.symm.trans m,rfl⟩
  .exact absurd (l.symm.trans E) w
  .exact absurd (m.symm.trans D) z
  .obtain⟨rfl,rfl⟩:=A.same C;rcases g with ⟨a,c,e⟩|⟨ov,j,g⟩<;> rcases i with ⟨b,d,f⟩|⟨Pt,k,i⟩
   .exact⟨c.trans d.symm,e.trans f.symm⟩
   .rw [a] at k;cases k
   .rw [b] at j;cases j
   .obtain rfl:ov=Pt:=Option.some.inj (j.symm.trans k);rcases g with ⟨a,c,e⟩|⟨a,c,e⟩<;> rcases i with ⟨b,d,f⟩|⟨b,d,f⟩
    .exact⟨a.symm.trans b,e.trans f.symm⟩
    .exact absurd (a.symm.trans b) c
    .exact absurd (b.symm.trans a) d
    .exact⟨c.symm.trans d,e.trans f.symm⟩
def sY.same (a:sY S s L) (b:sY S s L'):L=L':=by
 obtain⟨rs,hd,ov,e,c,rfl⟩:=a;obtain⟨Ba,UN,Pt,f,d,rfl⟩:=b;obtain⟨rfl,rfl⟩:=e.same f;obtain rfl:ov=Pt:=Option.some.inj (c.symm.trans d);rfl
def De (du:S.Ok s) (b:L.Ok s) (i:L.begun=false) (g:L.life=S.life) (j:S.num L.f<(L.top+1)*4294967296) (h0:(L.start S s).1≠0):(L.start S s).2.1.fuse=0/\(L.start S s).2.1.life=S.life/\(L.start S s).2.1.Ok s/\(L.start S s).2.1.puts.length<=S.puts.length+1:=by
 obtain⟨l,jk,k⟩:=kE b.s b.n1 b.top;unfold LG.start at h0⊢;by_cases hd:L.dead S=true
 .rw [aG hd];refine⟨?_,rfl,du,by show S.puts.length<=_;omega⟩;unfold LG.dead at hd;rw [g] at hd;simpa using hd
 .rw [aB hd,aB (by rw [i];decide)] at h0⊢;have e:(((L.top+1:Nat):Int)*4294967296+((0:Nat):Int))=(((L.top+1)*4294967296:Nat):Int):=by omega
  rw [e] at h0⊢;by_cases a:(cZ S s L.f (((L.top+1)*4294967296:Nat):Int)).1≠0
  .rw [aG a];obtain⟨c,d⟩:=pY (by omega) (iD (bu du L.f (by omega)) (bu du (L.f+1) (by omega)) (N:=(L.top+1)*4294967296) (by omega) j) a;exact⟨c,iU _ _ _ _,(nS du (by omega) _).1,d⟩
  .rw [aB a] at h0;exact absurd rfl h0
def AC:∀{ks:List Nat} {l r:List Int} {cs:CM},dU ks l=some (cs,r)->∀q∈cs,q.2.length=512
 | [],l,r,cs,h=>by
  simp only [dU,Option.some.injEq,Prod.mk.injEq] at h;obtain⟨rfl,_⟩:=h;intro q a;cases a
 |k :: ks,l,r,cs,h=>by
  rw [jA] at h;split at h
  .cases h
  .rename_i c;cases b:dU ks (l.drop 512) with
   |none=>rw [b] at h;cases h
   |some x=>
    rw [b] at h;simp only [Option.map_some,Option.some.injEq,Prod.mk.injEq] at h;obtain⟨rfl,rfl⟩:=h;intro q a;rcases List.mem_cons.1 a with rfl|a
    .show (l.take 512).length=512;rw [List.length_take];omega
    .exact AC (cs:=x.1) (r:=x.2) b q a
def O0 {blocks:Nat} {cs:CM} (h:gF blocks d=some cs):∀q∈cs,q.1<blocks/\q.2.length=512:=λq f=>by
 refine⟨oQ h q f,?_⟩;unfold gF at h;split at h
 .cases h
 .split at h
  .cases g:gQ blocks (le (d.take 2)) 0 (d.drop 2) with
   |none=>rw [g] at h;cases h
   |some x=>
    obtain⟨ks,r⟩:=x;rw [g] at h;have c:jP (dU ks r)=some cs:=h;cases e:dU ks r with
    |none=>rw [e] at c;cases c
    |some y=>
     obtain⟨j,i⟩:=y;rw [e] at c;cases i with
     |nil=>
      simp only [jP,Option.some.injEq] at c;subst c;exact AC e q f
     |cons a b=>cases c
  .cases h
def vO {blocks:Nat}:∀{rs:List (List Int)} {ms ov:CM},iH blocks ms rs=some ov->(∀q∈ms,q.1<blocks/\q.2.length=512)->∀q∈ov,q.1<blocks/\q.2.length=512
 | [],ms,ov,h,hm=>by
  simp only [iH,Option.some.injEq] at h;rw [<-h];exact hm
 |r :: rs,ms,ov,h,hm=>by
  rw [sZ] at h;cases a:gF blocks r with
  |none=>rw [a] at h;cases h
  |some cs=>
   rw [a] at h;exact vO h (λq b=>(ue b).elim (hm q) (O0 a q))
def In {blocks:Nat}:∀{rs:List (List Int)} {ms ov:CM},iH blocks ms rs=some ov->CM.Ok ms->CM.Ok ov
 | [],ms,ov,h,hm=>by
  simp only [iH,Option.some.injEq] at h;rw [<-h];exact hm
 |r :: rs,ms,ov,h,hm=>by
  rw [sZ] at h;cases a:gF blocks r with
  |none=>rw [a] at h;cases h
  |some cs=>
   rw [a] at h;exact In h (CM.qV hm cs)
def Tp (du:S.Ok s) (a:L.Ok s):(L.start S s).2.1.Ok s:=by
 have b:=a.s;have jk:=a.n1;unfold LG.start;split
 .exact du
 .split
  .exact du
  .split <;> exact(nS du (by omega) _).1
def Io {y:LY} (du:S.Ok s) (c:S.puts= []) (n:∀q∈ov,y.home+q.1<s/\q.2.length=512) (v:ov.length<=2048) (t:3<=y.home) (fK:3<=s):(em S s y ov rs).2.Ok s/\(em S s y ov rs).2.life=S.life/\((em S s y ov rs).1≠0->(em S s y ov rs).2.fuse=0)/\((em S s y ov rs).1=0->(em S s y ov rs).2.puts= [])/\(em S s y ov rs).2.puts.length<=3000/\∀i,i<3->(em S s y ov rs).2.now i=S.now i:=by
 obtain⟨u,d,b,g,f⟩:=eC (h0:=y.home) (ms:=ov) du n;have a:=eF S s y.home ov;rw [c] at a;have arf:(aE S s y.home ov).2.puts.length<=2048:=by simp at a;omega
 unfold em;split
 .exact⟨du,rfl,λh=>absurd rfl h,λ_=>c,by show S.puts.length<=3000;rw [c];exact dV _,λ_ _=>rfl⟩
 .split
  .rename_i q;exact⟨b,d,g,λh=>absurd h q,by omega,λi p=>f i (λq r e=>by omega)⟩
  .obtain⟨j,k,l,m⟩:=AX b;have:=l9 (aE S s y.home ov).2 s;exact⟨j,k.trans d,λo=>(l o).1,m,by omega,λi p=>(eY b (by omega)).trans (f i (λq r e=>by omega))⟩
def V.Inv.fA (h:V.Inv S s ls t) (Y:t+2<=1000000000000000000) (J:j0 S s x S1):(x≠0->V.Inv S1 s ls (t+1))/\(x=0->∀L,sY S s L->V.Inv S1 s (ls ++ [L]) (t+1)):=by
 rcases J with ⟨_,O,rfl⟩|⟨qG,X,k⟩
 .exact⟨λ_=>h.step,λh0=>absurd h0 O⟩
 .rcases k with ⟨m,e,rfl⟩|⟨l,rs,hd,Fq,k⟩
  .exact⟨λ_=>h.xT (by omega) _ _ (by rw [m];exact e),λh0=>absurd h0 e⟩
  .have uE:=kw qG;obtain⟨y,D⟩:=bQ (cE (S.now 0));have w:3<=y.home:=(by rw [D];show 3<=3+u32 (S.now 0) 12;omega);unfold sY;rw [<-D] at uE l Fq k⊢;obtain⟨WQ,EL,Ii,Ij⟩:=l7 (f:=1) l;obtain⟨vf,BG,p,u⟩:=Fq.small h.pZ (by omega);have xJ:=yn (s:=s) Fq h.pZ EL Ii (by omega) (by omega) (by omega);have b:=jy h.l0 h.lt (by omega:t<=1000000000000000000);have pI:S.take.Ok s:=⟨h.ok.len,h.ok.lo,h.ok.hi,h.ok.puts,h.ok.fuse⟩;have mi:bA S s 1 (y.log:Int)=S.take.fl s:=Ij;have z:(S.take.fl s).1=0:=(by rw [<-mi];exact l);have o9:=jm z;have aaY:=rY (s:=s) pI;have ae9:=h.pZ.take.fl s;have cq:(S.take.fl s).2.life=S.life+1:=(fX _ _).trans b;have jk:∀i,i<s->(S.take.fl s).2.now i=S.now i:=λi d=>eY (S:=S.take) pI d;have JA:S.num 1<((fh S 1 y.log hd).top+1)*4294967296:=EF EL;have afa:(fh S 1 y.log hd).life=S.life+1:=b;have i9:∀M∈ls,M.life<S.life+1:=λM I=>by have:=(h.ol M I).2;omega
   have uF:=h.opened (by omega:t<=1000000000000000000) 1 (y.log:Int) (by rw [mi];exact aaY) l (hd:=hd) p (by simpa using u);rw [mi] at k uF⊢;have CX:=h.next aaY ae9 (by rw [o9];exact dV _) (λ_=>by rw [o9];exact dV _) cq;have afb:V.Inv (S.take.fl s).2 s (ls ++ [fh S 1 y.log hd]) (t+1):=uF;generalize S.take.fl s=P at*;have afc:∀M∈ls,M.life<P.2.life:=(by rw [cq];exact i9);rcases k with ⟨U,rfl,rfl⟩|⟨ov,uR,k⟩
   .exact⟨λ_=>CX,λh0=>absurd h0 (by decide)⟩
   .have WY:=vO uR (λq a=>by cases a);have Eo:∀q∈ov,y.home+q.1<s/\q.2.length=512:=λq a=>⟨by have:=(WY q a).1;omega,(WY q a).2⟩;have aen:ov.length<=2048:=by
     have:=h.ok.hi;rcases CM.length_le (n:=2048) (In uR rO) (λq a=>by have:=(Eo q a).1;omega) 0 (λ_ _=>dV _) with h1|h1
     .omega
     .rw [h1];simp
    obtain⟨g,j,R,E,Z,F⟩:=Io (rs:=rs) aaY o9 Eo aen w (by omega);have Tq:=Dc (s:=s) (y:=y) (rs:=rs) ae9 (qE uR (λx v=>by cases v) (λr K=>(BG r K).1));have afd:∀L,(∃Ba UN Pt,jQ S 1 y.log Ba UN/\iH y.blocks [] Ba=some Pt/\L=((fh S 1 y.log UN).start (em P.2 s y Pt Ba).2 s).2.2)->L=((fh S 1 y.log hd).start (em P.2 s y ov rs).2 s).2.2:=λL o=>by
     obtain⟨Ba,UN,Pt,T,Q,rfl⟩:=o;obtain⟨rfl,rfl⟩:=Fq.same T;obtain rfl:ov=Pt:=Option.some.inj (uR.symm.trans Q);rfl
    generalize em P.2 s y ov rs=Rd at*;have Yt:=CX.idle afc g Tq (by omega) (λFf=>by
     by_cases q:Rd.1=0
     .rw [E q];exact dV _
     .exact absurd (R q) Ff) j
    have Yu:Rd.2.num (fh S 1 y.log hd).f<((fh S 1 y.log hd).top+1)*4294967296:=by
     show Rd.2.num 1<_;rw [vI (S:=S) (S':=Rd.2) ((F 1 (by omega)).trans (jk 1 (by omega))) ((F 2 (by omega)).trans (jk 2 (by omega)))];exact JA
    have akb:(fh S 1 y.log hd).life=Rd.2.life:=(by rw [afa,j,cq]);rcases k with ⟨rfl,N,rfl⟩|⟨e,rfl,rfl⟩
    .exact⟨λ_=>Yt,λh0=>absurd h0 N⟩
    .have akc:((fh S 1 y.log hd).start Rd.2 s).2.1.fL:=by
      unfold LG.start;split
      .exact Tq
      .split
       .exact Tq
       .split <;> exact Tq.cZ s _ _
     refine⟨λv=>?_,λ_ L o=>?_⟩
     .obtain⟨m,G,H,W⟩:=De g xJ rfl akb Yu v;exact Yt.idle (by rw [j];exact afc) H akc (by omega) (λc=>absurd m c) G
     .rw [afd L o];have d:(ls ++ [fh S 1 y.log hd])[ls.length]? =some (fh S 1 y.log hd):=(by simp);have A:=afb.on d (by rw [afa,cq]) g Tq j (by omega) xJ rfl (λ_=>⟨λc=>(by cases c),λ_=>⟨by rw [E e];rfl,Yu⟩⟩);have pd:(ls ++ [fh S 1 y.log hd]).set ls.length (fh S 1 y.log hd)=ls ++ [fh S 1 y.log hd]:=(by simp);rw [pd] at A;have C:=A.start d (Tp g xJ);have afe:(ls ++ [fh S 1 y.log hd]).set ls.length ((fh S 1 y.log hd).start Rd.2 s).2.2=ls ++ [((fh S 1 y.log hd).start Rd.2 s).2.2]:=(by simp);rw [afe] at C;exact C
end
end
section
section
variable {S S':DS} {s f:Nat} {L:LG} {G:SG}
def Ip (S:DS) {s:Nat} (h0:0<=x) (a:x<(s:Int)) (l:List Int):(S.wr s x 512 l).2.refused=S.refused:=by
 unfold DS.wr;split
 .rfl
 .rw [aB (by omega),aB (by decide)];rfl
def AY (S:DS) (s:Nat):(S.fl s).2.refused=S.refused:=by
 unfold DS.fl;split <;> rfl
def aaZ (S:DS) (x:Int):(S.lay x).refused=S.refused:=by
 unfold DS.lay;split <;> rfl
def EP (S:DS) {s f:Nat} (b:f+1<s) (num:Int):(cZ S s f num).2.refused=S.refused:=by
 have mR:=fU (S.now f) (S.now (f+1)) num [];unfold cZ;split
 .rfl
 .split
  .rfl
  .have a:=Ip S (s:=s) (x:=(f:Int)+((aP (S.now f) (S.now (f+1)) num []).1:Int)) (by omega) (by omega) (aP (S.now f) (S.now (f+1)) num []).2.1;split
   .exact a
   .exact(AY _ _).trans a
def EQ (L:LG) (S:DS) (s:Nat):(L.sync S s).2.refused=S.refused:=by
 unfold LG.sync;split
 .rfl
 .exact AY _ _
def W8 (c:L.f+1<s):(L.trim S s).2.1.refused=S.refused:=by
 have a:=EQ L S s;have b:=EP (L.sync S s).2 c ((L.ep:Int)*4294967296+(L.head:Int));unfold LG.trim;split
 .exact a
 .split
  .exact a
  .split <;> exact b.trans a
def ro {home:Nat}:∀{ms:CM} {S:DS},(∀q∈ms,home+q.1<s)->(aE S s home ms).2.refused=S.refused
 | [],_,_=>rfl
 |q :: qs,S,h=>by
  have c:=h q (List.mem_cons_self ..);have a:=Ip S (s:=s) (x:=((home+q.1:Nat):Int)) (by omega) (by omega) q.2;unfold aE;split
  .exact a
  .exact(ro (λx b=>h x (List.mem_cons_of_mem _ b))).trans a
def Iq (d:∀q∈G.ov,G.y.home+q.1<s) (e:G.L.f+1<s):(G.check S s).2.1.refused=S.refused:=by
 have a:=EQ G.L S s;have b:=(ro (S:=(G.L.sync S s).2) d).trans a;have c:=(W8 (S:=(aE (G.L.sync S s).2 s G.y.home G.ov).2) e).trans b;unfold SG.check;split
 .exact a
 .split
  .exact b
  .split <;> exact c
def tf {g:Nat->DS->Int×DS}:∀k,(∀j,j<k->∀T,(g j T).2.refused=T.refused)->(cB S g k).2.refused=S.refused
 |0,_=>rfl
 |k+1,hg=>by
  have:=tf k (λj a=>hg j (by omega));unfold cB;split
  .exact this
  .exact(hg k (by omega) _).trans this
def W9 (a:1<=n) (b:f+2+n<=s):(jX S s f n E P i c l).2.refused=S.refused:=by
 have:=Nat.mod_lt P a;unfold jX;split
 .rfl
 .exact Ip S (by omega) (by omega) _
def O1 (b:1<=L.n) (c:L.f+2+L.n<=s):(L.append S s d).2.1.refused=S.refused:=by
 have a:(cU L S s d (dh d.length)).2.refused=S.refused:=tf _ (λ_ _ _=>W9 b c);unfold LG.append;split
 .rfl
 .split <;> exact a
def Xa (L:LG) (S:DS) (s:Nat):(L.trim S s).2.2.f=L.f/\(L.trim S s).2.2.n=L.n:=by
 unfold LG.trim;split
 .exact⟨rfl,rfl⟩
 .split
  .exact⟨rfl,rfl⟩
  .split <;> exact⟨rfl,rfl⟩
def Tr (G:SG) (S:DS) (s:Nat):(G.check S s).2.2.L.f=G.L.f/\(G.check S s).2.2.L.n=G.L.n:=by
 have h:=Xa G.L (aE (G.L.sync S s).2 s G.y.home G.ov).2 s;unfold SG.check;split
 .exact⟨rfl,rfl⟩
 .split
  .exact⟨rfl,rfl⟩
  .split <;> exact h
def O2 {c:CM} (e:∀q∈G.ov,G.y.home+q.1<s) (g:1<=G.L.n) (i:G.L.f+2+G.L.n<=s):(G.bI S s c).2.1.refused=S.refused:=by
 have a:(G.made S s (cu c).length).2.1.refused=S.refused/\(G.made S s (cu c).length).2.2.L.f=G.L.f/\(G.made S s (cu c).length).2.2.L.n=G.L.n:=by
  unfold SG.made;split
  .exact⟨rfl,rfl,rfl⟩
  .exact⟨Iq e (by omega),Tr G S s⟩
 unfold SG.bI;split
 .rfl
 .split
  .exact a.1
  .have b:=O1 (S:=(G.made S s (cu c).length).2.1) (s:=s) (L:=(G.made S s (cu c).length).2.2.L) (d:=cu c) (by rw [a.2.2];exact g) (by rw [a.2.1,a.2.2];exact i);split <;> exact b.trans a.1
def La (a:∀q∈G.ov,G.y.home+q.1<s) (b:1<=G.L.n) (c:G.L.f+2+G.L.n<=s):(T.bI G S s).2.1.refused=S.refused:=by
 unfold TG.bI;split
 .rfl
 .split
  .rfl
  .split <;> exact O2 a b c
def Ts (c:f+2+n<=s):(cN S s f n).2.refused=S.refused:=by
 have a:(bE S s f (n+2)).2.refused=S.refused:=tf _ (λj b T=>Ip T (by omega) (by omega) _);unfold cN;split
 .exact a
 .exact(AY _ _).trans a
def Lb (S:DS) (s:Nat) (f n:Int):(cD S s f n).2.refused=S.refused:=by
 unfold cD;split
 .rfl
 .rename_i d;obtain⟨_,a,b,rfl,rfl,oE,ar,bd⟩:=fV (Decidable.of_not_not d);simp only [Int.toNat_natCast];have c:(cN S.take s a b).2.refused=S.refused:=Ts oE;split
  .exact c
  .exact(EP _ (by omega) _).trans c
def Ir (e:a+n<=s):(eB S s a n).2.refused=S.refused:=by
 have b:=ro (S:=S) (s:=s) (home:=a) (ms:=fb n) (λq c=>by
  unfold fb at c;obtain⟨i,d,rfl⟩:=List.mem_map.1 c;have:=List.mem_range.1 d;show a+i<s;omega)
 unfold eB;split
 .exact b
 .exact(AY _ _).trans b
def Lc (S:DS) (s:Nat) (a b c:Int):(bY S s a b c).2.refused=S.refused:=by
 unfold bY;split
 .rfl
 .split
  .rename_i i;obtain⟨po,k⟩:=i;obtain⟨⟨l,m⟩,⟨o,p⟩,j,s1,s2⟩:=po;have d:(ma S s).2.refused=S.refused:=Ir (S:=S.take) (by omega);have e:(nc S s).2.refused=S.refused:=(Ir (S:=(ma S s).2) (s:=s) (a:=1) (n:=s-1) (by omega)).trans d;have f:(jS S s b.toNat).2.refused=S.refused:=(Lb (nc S s).2 s 1 (b.toNat:Int)).trans e;have g:(mb S s b.toNat c.toNat).2.refused=S.refused:=(Ip (jS S s b.toNat).2 (s:=s) (x:=0) (by omega) (by omega) (gV s b.toNat c.toNat)).trans f;unfold lI;split
   .exact d
   .split
    .exact e
    .split
     .exact f
     .split
      .exact g
      .exact(AY _ _).trans g
  .rfl
def Tt (a:L.f+1<s):(L.start S s).2.1.refused=S.refused:=by
 unfold LG.start;split
 .rfl
 .split
  .rfl
  .split <;> exact EP _ a _
def Tu (S:DS) (s:Nat) (f n:Int):(bA S s f n).2.refused=S.refused:=by
 unfold bA;split
 .rfl
 .split
  .rfl
  .split
   .rfl
   .exact AY _ _
def Tv (b:∀q∈ov,y.home+q.1<s):(em S s y ov rs).2.refused=S.refused:=by
 have a:=ro (S:=S) b;unfold em;split
 .rfl
 .split
  .exact a
  .exact(AY _ _).trans a
def j0.rf (h:j0 S s x S'):S'.refused=S.refused:=by
 rcases h with ⟨_,_,rfl⟩|⟨qG,d,k⟩
 .rfl
 .have uE:=kw qG;have a:=Tu S s 1 (((cE (S.now 0)).log:Nat):Int);rcases k with ⟨_,_,rfl⟩|⟨e,rs,hd,Fq,k⟩
  .exact a
  .rcases k with ⟨_,_,rfl⟩|⟨ov,uR,k⟩
   .exact a
   .have WY:=vO uR (λq b=>by cases b);have c:=(Tv (S:=(bA S s 1 (((cE (S.now 0)).log:Nat):Int)).2) (s:=s) (y:=cE (S.now 0)) (ov:=ov) (rs:=rs) (λq b=>by have:=(WY q b).1;omega)).trans a;rcases k with ⟨_,_,rfl⟩|⟨_,_,rfl⟩
    .exact c
    .exact(Tt (by show 1+1<s;omega)).trans c
end
end
def O3 {w:World} {F:Nat->Prop} {p s:Nat} {S:DS} (h:B.ax w F p s S c) (dD:S.fL) (aU:S.puts.length+6000<=4000000000000) (hf:S.fuse≠0) (qG:mI (S.now 0) s):
  Calls prog 13 #[pQ p] w λe w'=>SY w F p s c S e w':=by
 obtain⟨w1,bO⟩:=bQ ((w.alloc (.cells #[.pointer none] 50)).alloc (.cells #[.int .i64 0] 46));have bN:bW w w1:=by rw [bO];exact cm w _ _
 have sf:w1.heap.size=w.heap.size+2:=by rw [bO];simp
 have po:w1.heap[w.heap.size]? =some (.cells #[.pointer none] 50 (0,0)):=by rw [bO];exact heap_alloc2_old _ _ _
 have fZ:w1.heap[w.heap.size+1]? =some (.cells #[.int .i64 0] 46 (0,0)):=by rw [bO];exact heap_alloc2_new _ _ _
 have bq:=h.lt;have hly:=uw (h.later bN) dD (by omega);have uE:=kw qG;clear h
 go_enter_defers func13,ntmps13
 go_wp2_with fail;rw [<-bO];clear bO;refine hly.mono ?_;rintro e w2 ⟨y,x,rfl,mi,cI,aY⟩;have eu:=aY.size;have rC:x=0/\y=cE (S.now 0):=by
  rcases mi with ⟨h1,_⟩|⟨_,_,h2,h3⟩|⟨_,h1,_⟩
  .exact absurd h1 hf
  .exact⟨h3,h2⟩
  .exact absurd qG h1
 obtain⟨rfl,X8⟩:=rC;rw [<-X8] at uE;have H:=yh X8;have WN:=(aY.block w.heap.size (by omega) (λd=>by have:=bq _ d;omega)).trans po;have H9:=(aY.block (w.heap.size+1) (by omega) (λd=>by have:=bq _ d;omega)).trans fZ;have HK:Yh (B.ax w2 F p s S (c+1)/\aa F w w2):=⟨cI,(aa.ah F bN).trans aY (λ_ h=> .inl h)⟩;have d0:=aM H9;have e0:=ae H9 0;have fH:w.heap.size+1<w2.heap.size:=by omega
 obtain⟨q,J,P,M,o5,o6⟩:=aeN bq fH WN H9 HK.o.1 HK.o.2 0 (.cells #[.int .i64 (y.log:Int), .int .i64 (y.home:Int), .int .i64 (y.blocks:Int), .int .i64 (y.nodes:Int), .int .i64 (y.data:Int)] 75);clear hly mi cI aY X8
 dsimp only [PD]
 go_upto_region 3 with fail
 generalize (w2.setCell ⟨w.heap.size+1,0,none⟩ (.int .i64 0)).alloc (.cells #[.int .i64 (y.log:Int), .int .i64 (y.home:Int), .int .i64 (y.blocks:Int), .int .i64 (y.nodes:Int), .int .i64 (y.data:Int)] 75)=w3 at*;have HW:=yh (aH q (aH J (aH P (aH M o5))));have I:=aj J (j:=0) (u:=iV 0) rfl;have l0:=aM P;have me:=B.SX M dD 1 (y.log:Int) (by omega);clear q J P M o5 d0 e0 WN H9 HK po fZ bN;go_wp2_with fail;refine me.mono ?_;rintro e w4 ⟨uF,K,dW⟩;clear me I l0;have wk:=dW.size;have ar:=(dW.block w.heap.size (by omega) (λd=>by have:=bq _ d;omega)).trans HW.o.1;have bd:=(dW.block (w.heap.size+1) (by omega) (λd=>by have:=bq _ d;omega)).trans HW.o.2.1;have bF:=(dW.block w2.heap.size (by omega) (λd=>by have:=bq _ d;omega)).trans HW.o.2.2.1;have EK:=HW.o.2.2.2.2.trans dW (λ_ h=> .inl h);have vw:=aaK S s y.log;unfold J6 at uF;by_cases Z:(bA S s 1 (y.log:Int)).1=0
 .rw [aB (λh=>h Z)] at uF;obtain⟨l,v,rs,hd,rfl,j5,Tw⟩:=uF;obtain⟨q,J,P,M⟩:=aeO 0 (λk d=> .inl (bq k d)) ar bd K;have I:=aj bd (j:=0) (u:=iV 0) rfl;have Y:=ae bd 0;have arh:=Tw.p.lt;have O4:=(M.block w2.heap.size (by omega) (by omega)).trans bF;have HT:=yh Tw;have XY:=yh Z;clear dW ar bd bF K HW Tw Z
  go_upto_region 6 with fail
  generalize I5:w4.setCell ⟨w.heap.size+1,0,none⟩ (.int .i64 0)=w5 at*;have pL:w5.heap.size=w4.heap.size:=by rw [<-I5,size_setCell]
  clear I Y I5;obtain⟨c1,f1,I,l0,l1,l2,l3,l4⟩:=xm (aM q) (ae q 0) (aj J (j:=0) (u:=iV 0) rfl) (aM O4) (bG O4) (bK O4) (fQ O4) (gG O4);have ari:w.heap.size<w5.heap.size:=by omega
  have HX:=yh (aH q (aH J (aH P M)));have HZ5:=yh pL;have hbN:=cm w5 (.map #[] 0) (.cells (Pr p l w5.heap.size y false) 85);have c1N:=aj ((hbN.block _ (aq q)).trans q) (j:=0) (u:= .pointer none) rfl;have f1N:=ae ((hbN.block _ (aq q)).trans q) 0;clear q J P O4 pL hbN;have B4:= @run_makeMap prog
  go_upto_region 9 with fail
  obtain⟨D,ME⟩:=bQ (((w5.setCell ⟨w.heap.size,0,none⟩ (.pointer (some ⟨w5.heap.size+1,0,none⟩))).alloc (.map #[] 0)).alloc (.cells (Pr p l w5.heap.size y false) 85));rw [<-ME];obtain⟨r1,r2,r3,r4,r5,r6,r7⟩:=aeP (l:=l) (y:=y) bq HX.o.1 HX.o.2.1 HX.o.2.2.1 ME;have G7:=(HT.o.aw HX.o.2.2.2 (λk e=>by omega) (by omega)).aw r6 (λk e=>by omega) (by omega);have Fq:jQ S 1 y.log rs hd:=⟨G7.t,G7.x⟩;obtain⟨WQ,EL,Ii,Ij⟩:=l7 (f:=1) XY.o;obtain⟨jk,mO,xU,Wf⟩:=Fq.small dD (by omega);have Yq:(bA S s 1 (y.log:Int)).2.puts= []:=by
   have:=XY.o;rw [show bA S s 1 (y.log:Int)=S.take.fl s from Ij] at this⊢;exact jm this
  have aa0:(bA S s 1 (y.log:Int)).2.fL:=by
   rw [show bA S s 1 (y.log:Int)=S.take.fl s from Ij];exact dD.take.fl s
  obtain⟨S1,aa1⟩:∃S1,S1=(bA S s 1 (y.log:Int)).2:=⟨_,rfl⟩;rw [<-aa1] at r5 Yq aa0;have ZD:¬F (w5.heap.size+1):=λd=>by have:=bq _ d;omega
  have hkm:¬F w5.heap.size:=λd=>by have:=bq _ d;omega
  have hre:=SR r5 r3 r4 ZD hkm uE.1 G7.r.aeQ mO (by omega) (by rw [Yq];simp);have a:=yh (aH r1 (aH r2 (aH r3 (aH r5 (aH G7 (aH Fq (aH Yq (aH aa0 (aH aa1 (aH mO (aH r6 (aH EL Ii))))))))))));have cq1:=aM r1;clear r1 r2 r3 r4 r5 G7 Fq Yq aa0 aa1 jk mO xU Wf WQ EL Ii Ij ME HT HX c1 I f1 c1N f1N l0 l1 l2 l3 l4 B4;have Ru:=r7;clear r7 r6;go_wp2_with fail;refine hre.mono ?_;rintro e i H6;clear hre cq1;have AB:=(EK.trans M (λk e=> .inr (by omega))).trans a.o.2.2.2.2.2.2.2.2.2.2.1 (λk e=> .inr (by omega));have pL:=HZ5.o;clear EK M;rcases H6 with ⟨hn,rfl,nL,gO⟩|⟨ov,uR,rfl,nL,gO,Xb⟩
  .have hz7:=gO.size;have m:=(gO.block w.heap.size (by omega) (by omega)).trans a.o.1;have n:=(gO.block (w.heap.size+1) (by omega) (by omega)).trans a.o.2.1;obtain⟨A,C,p3,g⟩:=oset (w:=w) (v:= .pointer none) (x:=6) (λk d=> .inl (bq k d)) m n nL;have HG:=yh (aH m n);have O:Yh (j0 S s 6 S1):=by
    unfold j0;rw [<-H.o];exact .inr ⟨qG,hf, .inr ⟨XY.o,rs,hd,a.o.2.2.2.2.2.1, .inl ⟨hn,rfl,a.o.2.2.2.2.2.2.2.2.1⟩⟩⟩
   have b:=yh (aH A (aH C (aH p3 ((AB.trans gO (λk e=> .inr (by omega))).trans g (λk e=> .inr (by omega)):aa F w _))));clear A C p3 g nL gO m n hn AB;go_wp2;refine leaves_cons (f:=42) (args:= #[pQ w.heap.size, .pointer (some ⟨w.heap.size+1,0,none⟩)]) (by simp) (by simp [go_sem]) ?_;refine(EE w.heap.size (w.heap.size+1) _ _ _ HG.o.1 HG.o.2 (by omega)).mono ?_;rintro e u' Bi ⟨rfl,rfl,aff⟩;rw [<-aff] at b;have Q:=aj b.o.1 (j:=0) (u:= .pointer none) rfl;have U:=aj b.o.2.1 (j:=0) (u:=iV 6) rfl;clear aff;simp [Leaves,settle,results,results13,go_sem,Q,U];exact⟨6,S1,_,by have:=H.o;rw [<-this];omega,O.o,b.o.2.2.2, .inl ⟨by decide,rfl,b.o.2.2.1.more⟩⟩
  .obtain⟨R,E⟩:=bQ (em S1 s y ov rs);rw [<-E] at nL Xb;rw [<-E];have hz7:=gO.size;have m:=(gO.block w.heap.size (by omega) (λe=>by rcases e with e|e;omega;have:=bq _ e;omega)).trans a.o.1;have n:=(gO.block (w.heap.size+1) (by omega) (λe=>by rcases e with e|e;omega;have:=bq _ e;omega)).trans a.o.2.1;have c1:=aM m;have f1:=ae m 0;have I:=aj n (j:=0) (u:=iV 0) rfl;have Y:=ae n 0;have Xc:∀k,more F D i k->k<w.heap.size\/w.heap.size+2<=k:=λk h=>by
    rcases h with h|h
    .exact .inl (bq k h)
    .exact .inr (by omega)
   have BW:=AB.trans gO (λk e=>by rcases e with e|e;exact .inr (by omega);exact .inl e);by_cases N:R.1=0
   .have dz:(R.1 == 0)=true:=(by rw [N];rfl);have dz2:(R.1 != 0)=false:=(by simp [N]);obtain⟨L,hL⟩:=bQ (fh S 1 y.log hd);have afg:cW D l p L:=(by rw [hL];exact a.o.2.2.2.2.1.p);have xJ:L.Ok s:=(by rw [hL];exact yn a.o.2.2.2.2.2.1 dD a.o.2.2.2.2.2.2.2.2.2.2.2.1 a.o.2.2.2.2.2.2.2.2.2.2.2.2 uE.2.1 uE.2.2.1 uE.2.2.2.1);have xQ:l≠w5.heap.size:=(by omega);have hlF:¬F l:=λe=>by have:=bq _ e;omega
    have akf:¬more F D i l:=λe=>by
     rcases e with e|e
     .exact hlF e
     .omega
    have afh:=afg.aw gO (λe=>by rcases e with e|e;exact xQ e;exact hlF e);have xG:=a.o.2.2.1.aw gO (λe=>by rcases e with e|e;omega;exact ZD e);have hRb:R.2.fL:=(by rw [E];exact Dc a.o.2.2.2.2.2.2.2.1 (qE uR (λx hx=>by cases hx) (λr hr=>(a.o.2.2.2.2.2.2.2.2.2.1 r hr).1)));have hRp:R.2.puts.length<=0:=by
     have h1:=K0 (S:=S1) (s:=s) (y:=y) (ov:=ov) (rs:=rs) (by rw [<-E];exact N);rw [<-E,a.o.2.2.2.2.2.2.1] at h1;exact h1
    have aa2:=B.OO nL afh xJ akf hRb (by omega);obtain⟨T,hT⟩:=bQ (L.start R.2 s);rw [<-hT] at aa2;have O:Yh (j0 S s T.1 T.2.1):=by
     unfold j0;rw [<-H.o];exact .inr ⟨qG,hf, .inr ⟨XY.o,rs,hd,a.o.2.2.2.2.2.1, .inr ⟨ov,uR, .inr ⟨by rw [<-a.o.2.2.2.2.2.2.2.2.1,<-E];exact N,by rw [<-a.o.2.2.2.2.2.2.2.2.1,<-E,<-hL,<-hT],by rw [<-a.o.2.2.2.2.2.2.2.2.1,<-E,<-hL,<-hT]⟩⟩⟩⟩
    have HSL:Yh (sY S s T.2.2):=by
     unfold sY;rw [<-H.o];exact⟨rs,hd,ov,a.o.2.2.2.2.2.1,uR,by rw [<-a.o.2.2.2.2.2.2.2.2.1,<-E,<-hL,<-hT]⟩
    have rW:T.1=0->T.2.2.Ok s/\T.2.2.begun=true:=(by rw [hT];exact sX xJ);have X:=yh (aH m (aH n (aH xG (aH (Xb N) (aH BW rW)))));clear nL gO m n AB BW E Xb N hL afg xJ afh xG hRb hRp hT rW uR c1 I f1 Y pL;generalize R.1=z at*;go_wp2_with fail;refine pj aa2 λG oM aa3 jV=>?_;clear aa2;have pL:=HZ5.o;have hz8:=jV.size;have m:=(jV.block w.heap.size (by omega) (λe=>by rcases e with e|e;rcases Xc _ e with e|e <;> omega;omega)).trans X.o.1;have n:=(jV.block (w.heap.size+1) (by omega) (λe=>by rcases e with e|e;rcases Xc _ e with e|e <;> omega;omega)).trans X.o.2.1;have c1:=aj m (j:=0) (u:= .pointer (some ⟨w5.heap.size+1,0,none⟩)) rfl;have f1:=ae m 0;have I:=aj n (j:=0) (u:=iV 0) rfl;have Y:=ae n 0;have Yv:∀k,more (more F D i) i G k->k<w.heap.size\/w.heap.size+2<=k:=λk h=>by
     rcases h with h|h
     .exact Xc k h
     .exact .inr (by omega)
    have Xd:=X.o.2.2.2.2.1.trans jV (λk e=>by
     rcases e with (e|e)|e
     .exact .inl e
     .exact .inr (by omega)
     .exact .inr (by omega))
    have Wd:∀(w9:World),G.heap.size<=w9.heap.size->∀k,more (more F D i) i G k->more F w w9 k:=λw9 hz k h=>by
     rcases h with (h|h)|h
     .exact .inl h
     .exact .inr (by omega)
     .exact .inr (by omega)
    by_cases W:T.1=0
    .have dt:(T.1 == 0)=true:=(by rw [W];rfl);have dt2:(T.1 != 0)=false:=(by simp [W]);obtain⟨A,C,p3,g⟩:=oset (w:=w) (v:= .pointer (some ⟨w5.heap.size+1,0,none⟩)) (x:=0) Yv m n oM;have hq8:¬more (more F D i) i G (w5.heap.size+1):=λe=>by
      rcases e with (e|e)|e
      .exact ZD e
      .omega
      .omega
     have XA:¬more (more F D i) i G w5.heap.size:=λe=>by
      rcases e with (e|e)|e
      .exact hkm e
      .omega
      .omega
     have C4:¬more (more F D i) i G l:=λe=>by
      rcases e with (e|e)|e
      .exact hlF e
      .omega
      .omega
     have Wx:=(X.o.2.2.1.aw jV (λe=>by rcases e with e|e;exact hq8 (.inl e);omega)).aw g (by omega);have afi:=(X.o.2.2.2.1.aw jV (λe=>by rcases e with e|e;exact XA (.inl e);omega)).aw g (by omega);have afj:=aa3.aw g (by omega);have FU:=X.o.2.2.2.2.2 W;have hSt:it ((G.setCell ⟨w.heap.size,0,none⟩ (.pointer (some ⟨w5.heap.size+1,0,none⟩))).setCell ⟨w.heap.size+1,0,none⟩ (.int .i64 0)) (more (more F D i) i G) p s (c+1+B.oRd S s 1 (y.log:Int)+2) (w5.heap.size+1) l w5.heap.size T.2.1 ⟨y,T.2.2, [],false⟩:=
        ⟨p3,Wx,afj,afi,hq8,C4,XA,by omega,by omega,xQ,FU.1,FU.2,uE.1,(λx hx=>by cases hx)⟩
     obtain⟨b,HT0⟩:=bU (aH A (aH C (aH hSt (aH (Xd.trans g (λk e=> .inr (by omega)):aa F w _) (Wd _ g.size))))) W;have Tx:=yh (aH (by omega:w.heap.size<=w5.heap.size+1) (aH (by omega:w.heap.size<=l) (by omega:w.heap.size<=w5.heap.size)));clear A C p3 g oM aa3 jV m n Xd Wd Wx afi afj FU hSt X W pL;go_wp2;generalize (G.setCell ⟨w.heap.size,0,none⟩ (.pointer (some ⟨w5.heap.size+1,0,none⟩))).setCell ⟨w.heap.size+1,0,none⟩ (.int .i64 0)=w9 at*;have Q:=aj b.o.1 (j:=0) (u:= .pointer (some ⟨w5.heap.size+1,0,none⟩)) rfl;have U:=aj b.o.2.1 (j:=0) (u:=iV 0) rfl;refine leaves_cons (f:=42) (args:= #[pQ w.heap.size, .pointer (some ⟨w.heap.size+1,0,none⟩)]) (by simp) (by simp [go_sem]) ?_;refine(kT _ _ _).mono ?_;rintro e u' Bi ⟨rfl,rfl,rfl⟩;simp [Leaves,settle,results,results13,go_sem,Q,U];have bw:=b.o.2.2.1;rw [H.o] at bw;have ho:=O.o;rw [HT0.o] at ho;exact⟨0,T.2.1,_,by have:=H.o;rw [<-this];omega,ho,b.o.2.2.2.1, .inr ⟨rfl,w5.heap.size+1,l,w5.heap.size,T.2.2,_,HSL.o,rfl,b.o.2.2.2.2,Tx.o.1,Tx.o.2.1,Tx.o.2.2,bw⟩⟩
    .have dt:(T.1 == 0)=false:=(by simpa using W);have dt2:(T.1 != 0)=true:=(by simp [W]);obtain⟨A,C,p3,g⟩:=oset (w:=w) (v:= .pointer none) (x:=T.1) Yv m n oM;have afk:∀k,more F w ((G.setCell ⟨w.heap.size,0,none⟩ (.pointer none)).setCell ⟨w.heap.size+1,0,none⟩ (.int .i64 T.1)) k->k<((G.setCell ⟨w.heap.size,0,none⟩ (.pointer none)).setCell ⟨w.heap.size+1,0,none⟩ (.int .i64 T.1)).heap.size:=λk h=>by
      have RP:=g.size;rcases h with h|h
      .have:=bq k h;omega
      .omega
     obtain⟨b,HT0⟩:=bU (aH A (aH C (aH (p3.mono (Wd _ g.size) afk) (Xd.trans g (λk e=> .inr (by omega)):aa F w _)))) W;clear A C p3 g oM aa3 jV m n Xd Wd afk X W;generalize T.1=t at*;go_wp2;generalize (G.setCell ⟨w.heap.size,0,none⟩ (.pointer none)).setCell ⟨w.heap.size+1,0,none⟩ (.int .i64 t)=w9 at*;have Q:=aj b.o.1 (j:=0) (u:= .pointer none) rfl;have U:=aj b.o.2.1 (j:=0) (u:=iV t) rfl;refine leaves_cons (f:=42) (args:= #[pQ w.heap.size, .pointer (some ⟨w.heap.size+1,0,none⟩)]) (by simp) (by simp [go_sem]) ?_;refine(kT _ _ _).mono ?_;rintro e u' Bi ⟨rfl,rfl,rfl⟩;simp [Leaves,settle,results,results13,go_sem,Q,U];exact⟨t,T.2.1,_,by have:=H.o;rw [<-this];omega,O.o,b.o.2.2.2, .inl ⟨HT0.o,rfl,b.o.2.2.1⟩⟩
   .have dz:(R.1 == 0)=false:=(by simpa using N);have dz2:(R.1 != 0)=true:=(by simp [N]);obtain⟨A,C,p3,g⟩:=oset (w:=w) (v:= .pointer none) (x:=R.1) Xc m n nL;have O:Yh (j0 S s R.1 R.2):=by
     unfold j0;rw [<-H.o];exact .inr ⟨qG,hf, .inr ⟨XY.o,rs,hd,a.o.2.2.2.2.2.1, .inr ⟨ov,uR, .inl ⟨by rw [E,a.o.2.2.2.2.2.2.2.2.1],N,by rw [E,a.o.2.2.2.2.2.2.2.2.1]⟩⟩⟩⟩
    have B9:B.ax ((i.setCell ⟨w.heap.size,0,none⟩ (.pointer none)).setCell ⟨w.heap.size+1,0,none⟩ (.int .i64 R.1)) (more F w ((i.setCell ⟨w.heap.size,0,none⟩ (.pointer none)).setCell ⟨w.heap.size+1,0,none⟩ (.int .i64 R.1))) p s R.2 (c+1+B.oRd S s 1 (y.log:Int)):=by
     have RP:=g.size;refine p3.mono (λk h=>?_) (λk h=>?_)
     .rcases h with h|h
      .exact .inl h
      .exact .inr (by omega)
     .rcases h with h|h
      .have:=bq k h;omega
      .omega
    obtain⟨b,Ow⟩:=bU (aH A (aH C (aH B9 (BW.trans g (λk e=> .inr (by omega)):aa F w _)))) N;clear A C p3 g nL gO m n AB BW B9 E Xb N;generalize R.1=z at*;go_wp2;generalize (i.setCell ⟨w.heap.size,0,none⟩ (.pointer none)).setCell ⟨w.heap.size+1,0,none⟩ (.int .i64 z)=G at*;have Q:=aj b.o.1 (j:=0) (u:= .pointer none) rfl;have U:=aj b.o.2.1 (j:=0) (u:=iV z) rfl;refine leaves_cons (f:=42) (args:= #[pQ w.heap.size, .pointer (some ⟨w.heap.size+1,0,none⟩)]) (by simp) (by simp [go_sem]) ?_;refine(kT _ _ _).mono ?_;rintro e u' Bi ⟨rfl,rfl,rfl⟩;simp [Leaves,settle,results,results13,go_sem,Q,U];exact⟨z,R.2,_,by have:=H.o;rw [<-this];omega,O.o,b.o.2.2.2, .inl ⟨Ow.o,rfl,b.o.2.2.1⟩⟩
 .rw [aG Z] at uF;subst uF;have O:Yh (j0 S s (bA S s 1 (y.log:Int)).1 (bA S s 1 (y.log:Int)).2):= .inr ⟨qG,hf, .inl ⟨by rw [<-H.o],Z,by rw [<-H.o]⟩⟩;obtain⟨S',hS'⟩:∃S',S'=(bA S s 1 (y.log:Int)).2:=⟨_,rfl⟩;rw [<-hS'] at O K;obtain⟨x,hx⟩:∃x,x=(bA S s 1 (y.log:Int)).1:=⟨_,rfl⟩;rw [<-hx] at O Z;rw [<-hx];have dx2:(x != 0)=true:=by simp [Z]
  obtain⟨q,J,P,M⟩:=aeO x (λk d=> .inl (bq k d)) ar bd K;have I:=aj bd (j:=0) (u:=iV 0) rfl;have Y:=ae bd 0;clear hx hS' dW ar bd bF K HW
  go_upto_region 6 with fail
  generalize w4.setCell ⟨w.heap.size+1,0,none⟩ (.int .i64 x)=w5 at*;clear I Y;have c1:=aM q;have f1:=ae q 0;have I:=aj J (j:=0) (u:=iV x) rfl;have Y:=ae J 0;obtain⟨A,C,p3,g⟩:=oset (w:=w) (v:= .pointer none) (x:=x) (λk d=> .inl (bq k d)) q J P;clear q J P
  go_upto_region 7 with fail
  go_region
  have pg:=EK.trans M (λk e=> .inr (by omega));generalize (w5.setCell ⟨w.heap.size,0,none⟩ (.pointer none)).setCell ⟨w.heap.size+1,0,none⟩ (.int .i64 x)=D at*;have UK:bW D D.drew:=ai (bi _ _);have HF:Yh (B.ax D.drew F p s S' (c+1+B.oRd S s 1 (y.log:Int))/\aa F w D.drew):=⟨p3.later UK,(pg.trans g (λk e=> .inr (by omega))).trans (aa.ah (λ_=>False) UK) (λ_ h=>h.elim)⟩;have Q:=aj ((UK.block _ (aq A)).trans A) (j:=0) (u:= .pointer none) rfl;have U:=aj ((UK.block _ (aq C)).trans C) (j:=0) (u:=iV x) rfl;clear A C p3 g UK c1 I f1 Y M pg EK;generalize D.drew=i at*;go_wp2;refine leaves_cons (f:=42) (args:= #[pQ w.heap.size, .pointer (some ⟨w.heap.size+1,0,none⟩)]) (by simp) (by simp [go_sem]) ?_;refine(kT _ _ _).mono ?_;rintro e u' Bi ⟨rfl,rfl,rfl⟩;simp [Leaves,settle,results,results13,go_sem,Q,U];exact⟨x,S',_,by have:=H.o;rw [<-this];omega,O.o,HF.o.2, .inl ⟨Z,rfl,HF.o.1.more⟩⟩
section
structure PI where
 q:Nat
 l:Nat
 m:Nat
 G:SG
structure PT where
 i:Nat
 t:Nat
 n:Nat
 T:TG
structure PW (w:World) (F P:Nat->Prop) (p s:Nat) (S:DS) (c:Nat) (ss:List PI) (ts:List PT):Prop where
 d:B.ax w F p s S c
 fM:∀g,P g->¬F g
 lt:∀g,P g->g<w.heap.size
 st:∀I∈ss,ng w I.q p I.l I.m I.G.y I.G.busy/\cW w I.l p I.G.L/\Ch w I.m I.G.ov/\(P I.q/\P I.l/\P I.m)/\I.G.L.Ok s/\I.G.L.begun=true/\I.G.y.home+I.G.y.blocks<=s/\∀x∈I.G.ov,x.1<I.G.y.blocks
 tx:∀J∈ts,∃I,ss[J.i]? =some I/\w.heap[J.t]? =some (.cells (BI I.q J.n J.T) 88 (0,0))/\Ch w J.n J.T.puts/\(P J.t/\P J.n)/\∀x∈J.T.puts,x.1<I.G.y.blocks
 nq:(ss.map (·.q)).Nodup
 nl:(ss.map (·.l)).Nodup
 nm:(ss.map (·.m) ++ ts.map (·.n)).Nodup
 nt:(ts.map (·.t)).Nodup
def cY {w:World} {b:Nat} {x y:Array Value} {f:TypeId} {u v:Nat×Nat} (c:w.heap[a]? =some (.cells x e u)) (d:w.heap[b]? =some (.cells y f v)) (dM:e≠f):a≠b:=λh=>by
 rw [h,d] at c;simp at c;exact dM c.2.1.symm
def lq {w:World} {m b:Nat} {ms:CM} {y:Array Value} {f:TypeId} {v:Nat×Nat} (a:Ch w m ms) (c:w.heap[b]? =some (.cells y f v)):m≠b:=λh=>a.qC (by rw [h];exact c)
def iY {f:α->Nat} {l:List α} (h:(l.map f).Nodup) {i j:Nat} {a b:α} (n:l[i]? =some a) (o:l[j]? =some b) (dM:i≠j):f a≠f b:=λe=>by
 obtain⟨k,d⟩:=mL.1 n;obtain⟨m,g⟩:=mL.1 o;rw [List.nodup_iff_pairwise_ne,List.pairwise_iff_getElem] at h;rcases Nat.lt_or_gt_of_ne dM with c|c
 .have:=h i j (by simpa using k) (by simpa using m) c;simp only [List.getElem_map,d,g] at this;exact this e
 .have:=h j i (by simpa using m) (by simpa using k) c;simp only [List.getElem_map,d,g] at this;exact this e.symm
section
variable {w w':World} {F F' P:Nat->Prop} {p s c c' i j:Nat} {S S':DS} {ss:List PI} {ts:List PT} {I:PI} {J:PT} {G':SG} {T':TG}
def PW.ES (h:PW w F P p s S c ss ts) (o:ss[i]? =some I):it w F p s c I.q I.l I.m S I.G:=by
 obtain⟨a,b,f,⟨r,t,p3⟩,g,j,k,n⟩:=h.st I (gz o);exact⟨h.d,a,b,f,h.fM _ r,h.fM _ t,h.fM _ p3,cY a b (by decide),λe=>lq f a e.symm,λe=>lq f b e.symm,g,j,k,n⟩
def PW.Ld (h:PW w F P p s S c ss ts) (o:ts[j]? =some J) (d:ss[J.i]? =some I):mD w F I.q I.l I.m J.t J.n I.G J.T:=by
 obtain⟨I',ny,a,b,⟨v,x⟩,u⟩:=h.tx J (gz o);obtain rfl:I'=I:=Option.some.inj (ny.symm.trans d);obtain⟨g,k,r,_⟩:=h.st I' (gz d);have f:J.n≠I'.m:=λe=>by
  have:=(List.nodup_append.1 h.nm).2.2 I'.m (List.mem_map_of_mem (gz d)) J.n (List.mem_map_of_mem (gz o));exact this e.symm
 exact⟨a,b,h.fM _ v,h.fM _ x,cY a g (by decide),cY a k (by decide),λe=>lq r a e.symm,λe=>lq b a e.symm,lq b g,lq b k,f,u⟩
def PW.at (h:PW w F P p s S c ss ts) (b:ts[j]? =some J):∃I,ss[J.i]? =some I:=by
 obtain⟨I,a,_⟩:=h.tx J (gz b);exact⟨I,a⟩
def PW.aw (h:PW w F P p s S c ss ts) (a:aa Z w w') (m:∀g,F g->¬Z g) (b:∀g,P g->¬Z g):PW w' F P p s S c ss ts:=by
 refine⟨h.d.aw a m,h.fM,λg q=>i5 (h.lt g q) a.size,λI n=>?_,λJ o=>?_,h.nq,h.nl,h.nm,h.nt⟩
 .obtain⟨i,j,k,⟨e,f,p3⟩,l⟩:=h.st I n;exact⟨i.aw a (b _ e),j.aw a (b _ f),k.aw a (b _ p3),⟨e,f,p3⟩,l⟩
 .obtain⟨I,r,i,j,⟨e,f⟩,k⟩:=h.tx J o;exact⟨I,r,(a.block _ (aq i) (b _ e)).trans i,j.aw a (b _ f),⟨e,f⟩,k⟩
def PW.later (h:PW w F P p s S c ss ts) (a:bW w w'):PW w' F P p s S c ss ts:=h.aw (aa.ah (λ_=>False) a) (λ_ _ h=>h) (λ_ _ h=>h)
def PW.on (h:PW w F P p s S c ss ts) (o:ss[i]? =some I) (A:ts[j]? =some J) (PH:J.i=i) (Y:G'.y=I.G.y) (X:∀g,F' g->more F w w' g) (bw:it w' F' p s c' I.q I.l I.m S' G') (nQ:w'.heap[J.t]? =some (.cells (BI I.q J.n T') 88 (0,0))) (nh:Ch w' J.n T'.puts) (pb:∀x∈T'.puts,x.1<G'.y.blocks) (D:aa (λg=>F g\/g=I.q\/g=I.l\/g=I.m\/g=J.t\/g=J.n) w w'):
  PW w' F' P p s S' c' (ss.set i {I with G:=G'}) (ts.set j {J with T:=T'}):=by
 have KV:=(mL.1 o).1;have C:=(mL.1 A).1;obtain⟨Xe,Xf,u,⟨pq,Z,pm⟩,_⟩:=h.st I (gz o);obtain⟨I0,rH,r,v,⟨pt,pn⟩,_⟩:=h.tx J (gz A);have xv:=List.nodup_append.1 h.nm;have BY:∀g,P g->¬F' g:=λg L a=>by
  rcases X g a with a|a
  .exact h.fM g L a
  .have:=h.lt g L;omega
 have akj:(ss.set i {I with G:=G'}).map (·.q)=ss.map (·.q):=by
  rw [List.map_set];apply List.ext_getElem?;intro n;by_cases e:n=i
  .subst e;rw [List.getElem?_set_self (by simpa using KV),Be,o];rfl
  .rw [List.getElem?_set_ne (λh=>e h.symm)]
 have akk:(ss.set i {I with G:=G'}).map (·.l)=ss.map (·.l):=by
  rw [List.map_set];apply List.ext_getElem?;intro n;by_cases e:n=i
  .subst e;rw [List.getElem?_set_self (by simpa using KV),Be,o];rfl
  .rw [List.getElem?_set_ne (λh=>e h.symm)]
 have akl:(ss.set i {I with G:=G'}).map (·.m)=ss.map (·.m):=by
  rw [List.map_set];apply List.ext_getElem?;intro n;by_cases e:n=i
  .subst e;rw [List.getElem?_set_self (by simpa using KV),Be,o];rfl
  .rw [List.getElem?_set_ne (λh=>e h.symm)]
 have akm:(ts.set j {J with T:=T'}).map (·.t)=ts.map (·.t):=by
  rw [List.map_set];apply List.ext_getElem?;intro n;by_cases e:n=j
  .subst e;rw [List.getElem?_set_self (by simpa using C),Be,A];rfl
  .rw [List.getElem?_set_ne (λh=>e h.symm)]
 have akn:(ts.set j {J with T:=T'}).map (·.n)=ts.map (·.n):=by
  rw [List.map_set];apply List.ext_getElem?;intro n;by_cases e:n=j
  .subst e;rw [List.getElem?_set_self (by simpa using C),Be,A];rfl
  .rw [List.getElem?_set_ne (λh=>e h.symm)]
 refine⟨bw.d,BY,λg L=>i5 (h.lt g L) D.size,λK O=>?_,λK O=>?_,by rw [akj];exact h.nq,by rw [akk];exact h.nl,by rw [akl,akn];exact h.nm,by rw [akm];exact h.nt⟩
 .obtain⟨n,b⟩:=List.mem_iff_getElem?.1 O;by_cases e:n=i
  .subst e;rw [List.getElem?_set_self KV] at b;cases b;exact⟨bw.st,bw.lp,bw.ch,⟨pq,Z,pm⟩,bw.lk,bw.bg,bw.hs,bw.kb⟩
  .rw [List.getElem?_set_ne (λh=>e h.symm)] at b;obtain⟨f,k,z,⟨E,H,p3⟩,W⟩:=h.st K (gz b);refine⟨f.aw D (λa=>?_),k.aw D (λa=>?_),z.aw D (λa=>?_),⟨E,H,p3⟩,W⟩
   .rcases a with a|a|a|a|a|a
    .exact h.fM _ E a
    .exact(iY h.nq b o e) a
    .exact cY f Xf (by decide) a
    .exact lq u f a.symm
    .exact cY f r (by decide) a
    .exact lq v f a.symm
   .rcases a with a|a|a|a|a|a
    .exact h.fM _ H a
    .exact cY k Xe (by decide) a
    .exact(iY h.nl b o e) a
    .exact lq u k a.symm
    .exact cY k r (by decide) a
    .exact lq v k a.symm
   .rcases a with a|a|a|a|a|a
    .exact h.fM _ p3 a
    .exact lq z Xe a
    .exact lq z Xf a
    .exact(iY xv.1 b o e) a
    .exact lq z r a
    .exact(xv.2.2 K.m (List.mem_map_of_mem (gz b)) J.n (List.mem_map_of_mem (gz A))) a
 .obtain⟨n,b⟩:=List.mem_iff_getElem?.1 O;by_cases e:n=j
  .subst e;rw [List.getElem?_set_self C] at b;cases b;refine⟨{I with G:=G'},by rw [PH];exact List.getElem?_set_self KV,nQ,nh,⟨pt,pn⟩,pb⟩
  .rw [List.getElem?_set_ne (λh=>e h.symm)] at b;obtain⟨M,Q,f,k,⟨E,H⟩,z⟩:=h.tx K (gz b);have R:=(D.block _ (aq f) (λa=>by
    rcases a with a|a|a|a|a|a
    .exact h.fM _ E a
    .exact cY f Xe (by decide) a
    .exact cY f Xf (by decide) a
    .exact lq u f a.symm
    .exact(iY h.nt b A e) a
    .exact lq v f a.symm)).trans f
   have U:=k.aw D (λa=>by
    rcases a with a|a|a|a|a|a
    .exact h.fM _ H a
    .exact lq k Xe a
    .exact lq k Xf a
    .exact(xv.2.2 I.m (List.mem_map_of_mem (gz o)) K.n (List.mem_map_of_mem (gz b))) a.symm
    .exact lq k r a
    .exact(iY xv.2.1 b A e) a)
   by_cases N:K.i=i
   .rw [N,o] at Q;cases Q;exact⟨{I with G:=G'},by rw [N];exact List.getElem?_set_self KV,R,U,⟨E,H⟩,by rw [show ({I with G:=G'}:PI).G=G' from rfl,Y];exact z⟩
   .exact⟨M,by rw [List.getElem?_set_ne (λh=>N h.symm)];exact Q,R,U,⟨E,H⟩,z⟩
end
end
section
structure RI where
 k:Nat
 kl:Nat
 pv:Value
 ps:List (Nat×List Int)
 hm:Nat
 nv:Value
 G:SG
structure RJ where
 i:Nat
 u:Nat
 tv:Value
 us:List (Nat×List Int)
 T:TG
structure RW (w:World) (F X:Nat->Prop) (r s:Nat) (S:DS) (ss:List RI) (ts:List RJ):Prop where
 e:aC w F r s S
 fM:∀g,X g->¬F g
 lt:∀g,X g->g<w.heap.size
 st:∀I∈ss,iL w F X r s S I.k I.kl I.G I.pv I.ps I.hm I.nv
 tx:∀J∈ts,∃I,ss[J.i]? =some I/\nY w X I.k J.u I.G J.T J.tv J.us
 nk:(ss.map (·.k)).Nodup
 nl:(ss.map (·.kl)).Nodup
 nu:(ts.map (·.u)).Nodup
 r1:∀(i i':Nat) (I I':RI),ss[i]? =some I->ss[i']? =some I'->i≠i'->∀g,I.pv.ownBlock=some g->I'.pv.ownBlock≠some g
 r2:∀(j j':Nat) (J J':RJ),ts[j]? =some J->ts[j']? =some J'->j≠j'->∀g,J.tv.ownBlock=some g->J'.tv.ownBlock≠some g
 r3:∀I∈ss,∀J∈ts,∀g,I.pv.ownBlock=some g->J.tv.ownBlock≠some g
def mY {f:α->Nat} {l:List α} {i:Nat} {a b:α} (c:l[i]? =some a) (h:f b=f a):(l.set i b).map f=l.map f:=by
 rw [List.map_set];apply List.ext_getElem?;intro n;by_cases e:n=i
 .subst e;rw [List.getElem?_set_self (by simpa using ((mL.1 c).1)),Be,c,h];rfl
 .rw [List.getElem?_set_ne (λh=>e h.symm)]
def dr {l:List α} {i:Nat} {a b x:α} (d:l[i]? =some a) (c:(l.set i b)[n]? =some x):(n=i/\x=b)\/(n≠i/\l[n]? =some x):=by
 by_cases e:n=i
 .subst e;rw [List.getElem?_set_self ((mL.1 d).1)] at c;exact .inl ⟨rfl,(Option.some.inj c).symm⟩
 .rw [List.getElem?_set_ne (λh=>e h.symm)] at c;exact .inr ⟨e,c⟩
section
variable {w w':World} {F F' X X':Nat->Prop} {r s i j:Nat} {S S':DS} {ss:List RI} {ts:List RJ} {I I':RI} {J J':RJ}
def RW.aw (h:RW w F X r s S ss ts) (a:aa Z w w') (d:∀g,F g->¬Z g) (b:∀g,X g->¬Z g):RW w' F X r s S ss ts:=by
 refine⟨h.e.aw a d,h.fM,λg j=>i5 (h.lt g j) a.size,λI f=>(h.st I f).aw a b,λJ i=>?_,h.nk,h.nl,h.nu,h.r1,h.r2,h.r3⟩;obtain⟨I,k,c⟩:=h.tx J i;exact⟨I,k,c.aw a b⟩
def RW.later (h:RW w F X r s S ss ts) (a:bW w w'):RW w' F X r s S ss ts:=h.aw (aa.ah (λ_=>False) a) (λ_ _ h=>h) (λ_ _ h=>h)
def RW.jR (h:RW w F X r s S ss ts) (a:ss[i]? =some I):iL w F X r s S I.k I.kl I.G I.pv I.ps I.hm I.nv:=h.st I (gz a)
def RW.ph (h:RW w F X r s S ss ts) (c:ts[j]? =some J) (b:ss[J.i]? =some I):nY w X I.k J.u I.G J.T J.tv J.us:=by
 obtain⟨I',ny,a⟩:=h.tx J (gz c);obtain rfl:I'=I:=Option.some.inj (ny.symm.trans b);exact a
def iL.other {e:Value} (h:iL w F X r s S k kl G e ps hm nv) (d:aa Z w w') (b:∀g,X g->X' g) (aal:∀g,X' g->¬F' g) (bq:∀g,X' g->g<w'.heap.size) (f:¬Z k) (i:¬Z kl) (j:∀g,e.ownBlock=some g->¬Z g) (l:∀g c ys,X g->ay w 5 g c ys->¬Z g) (a:S'=S\/G.L.dead S'=true):iL w' F' X' r s S' k kl G e ps hm nv:=
   ⟨h.st.aw d f,h.lp.aw d i,(h.pl.aw d j l).mono b,b _ h.xk,b _ h.xl,aal,bq,h.lk,h.bg,h.hs,h.lh,h.ov,h.hm,h.kb,λhd=>by
  rcases a with a|a
  .rw [a] at hd⊢;exact h.un hd
  .rw [a] at hd;cases hd⟩
def nY.other {G':SG} {tv:Value} {us:List (Nat×List Int)} (h:nY w X k u G T tv us) (b:aa Z w w') (a:∀g,X g->X' g) (d:G'.y=G.y) (e:¬Z u) (f:∀g,tv.ownBlock=some g->¬Z g) (i:∀g c ys,X g->ay w 5 g c ys->¬Z g):nY w' X' k u G' T tv us:=
   ⟨h.tx.aw b e,a _ h.xt,(h.pl.aw b f i).mono a,h.nd,h.pu,by rw [d];exact h.kb,h.Eg⟩
def RW.on (h:RW w F X r s S ss ts) (m:ss[i]? =some I) (t:ts[j]? =some J) (PH:J.i=i) (Bj:I'.k=I.k) (Ul:I'.kl=I.kl) (hy:I'.G.y=I.G.y) (hu:J'.u=J.u) (Q:J'.i=J.i)
    (he:aC w' F' r s S') (U:∀g,X g->X' g) (_hX':∀g,X' g->more X w w' g) (bw:iL w' F' X' r s S' I'.k I'.kl I'.G I'.pv I'.ps I'.hm I'.nv) (nQ:nY w' X' I'.k J'.u I'.G J'.T J'.tv J'.us)
    (xD:I'.pv.ownBlock=I.pv.ownBlock\/∀g,I'.pv.ownBlock=some g->w.heap.size<=g) (Z:J'.tv.ownBlock=J.tv.ownBlock\/∀g,J'.tv.ownBlock=some g->w.heap.size<=g) (Y:∀g,I'.pv.ownBlock=some g->J'.tv.ownBlock≠some g)
    (W:aa (λg=>F g\/g=I.k\/g=I.kl\/g=J.u\/I.pv.ownBlock=some g\/J.tv.ownBlock=some g) w w') (hS:S'=S\/∀n K,ss[n]? =some K->n≠i->K.G.L.dead S'=true):
  RW w' F' X' r s S' (ss.set i I') (ts.set j J'):=by
 have KV:=(mL.1 m).1;have q:=h.jR m;have v:=h.ph t (by rw [PH];exact m);have z:∀g c ys,X g->ay w 5 g c ys->¬(F g\/g=I.k\/g=I.kl\/g=J.u\/I.pv.ownBlock=some g\/J.tv.ownBlock=some g):=λg c ys hg H d=>by
  have Bt:=H;obtain⟨cur,x,_⟩:=Bt;rcases d with d|d|d|d|d|d
  .exact h.fM g hg d
  .exact H.ne q.st (by decide) d
  .exact H.ne q.lp (by decide) d
  .exact H.ne v.tx (by decide) d
  .exact q.pl.ne d x (by decide) rfl
  .exact v.pl.ne d x (by decide) rfl
 have Ty:∀{n:Nat} {K:RI},ss[n]? =some K->∀g,K.pv.ownBlock=some g->g<w.heap.size:=λC g e=>(h.jR C).pl.rlt g e;have Le:∀{n:Nat} {K:RJ},ts[n]? =some K->∀g,K.tv.ownBlock=some g->g<w.heap.size:=λC g e=>by
  obtain⟨M,E,hT⟩:=h.tx _ (gz C);exact hT.pl.rlt g e
 have aa6:∀g,I'.pv.ownBlock=some g->I.pv.ownBlock=some g\/w.heap.size<=g:=λg e=>xD.elim (λh=> .inl (h▸e)) (λh=> .inr (h g e));have aa7:∀g,J'.tv.ownBlock=some g->J.tv.ownBlock=some g\/w.heap.size<=g:=λg e=>Z.elim (λh=> .inl (h▸e)) (λh=> .inr (h g e));refine⟨he,bw.fM,bw.lt,λK R=>?_,λK R=>?_,by rw [mY m Bj];exact h.nk,by rw [mY m Ul];exact h.nl,by rw [mY t hu];exact h.nu,λa b A B D x oE g o p=>?_,λa b A B D x oE g o p=>?_,λA hA B hB g o p=>?_⟩
 .obtain⟨n,C⟩:=List.mem_iff_getElem?.1 R;rcases dr m C with ⟨_,rfl⟩|⟨dM,Bm⟩
  .exact bw
  .have f:=h.jR Bm;refine f.other W U bw.fM bw.lt (λd=>?_) (λd=>?_) (λg e d=>?_) z (hS.imp id (λh=>h n K Bm dM))
   .rcases d with d|d|d|d|d|d
    .exact h.fM _ f.xk d
    .exact iY h.nk Bm m dM d
    .exact cY f.st q.lp (by decide) d
    .exact cY f.st v.tx (by decide) d
    .exact q.pl.ne d f.st (by decide) rfl
    .exact v.pl.ne d f.st (by decide) rfl
   .rcases d with d|d|d|d|d|d
    .exact h.fM _ f.xl d
    .exact cY f.lp q.st (by decide) d
    .exact iY h.nl Bm m dM d
    .exact cY f.lp v.tx (by decide) d
    .exact q.pl.ne d f.lp (by decide) rfl
    .exact v.pl.ne d f.lp (by decide) rfl
   .rcases d with d|d|d|d|d|d
    .exact h.fM _ (f.pl.row g e) d
    .exact f.pl.ne e q.st (by decide) d
    .exact f.pl.ne e q.lp (by decide) d
    .exact f.pl.ne e v.tx (by decide) d
    .exact h.r1 _ _ _ _ Bm m dM g e d
    .exact h.r3 K (gz Bm) J (gz t) g e d
 .obtain⟨n,C⟩:=List.mem_iff_getElem?.1 R;rcases dr t C with ⟨_,rfl⟩|⟨dM,Bm⟩
  .exact⟨I',by rw [Q,PH];exact List.getElem?_set_self KV,nQ⟩
  .obtain⟨M,E,f⟩:=h.tx K (gz Bm);have zu:¬(F K.u\/K.u=I.k\/K.u=I.kl\/K.u=J.u\/I.pv.ownBlock=some K.u\/J.tv.ownBlock=some K.u):=λd=>by
    rcases d with d|d|d|d|d|d
    .exact h.fM _ f.xt d
    .exact cY f.tx q.st (by decide) d
    .exact cY f.tx q.lp (by decide) d
    .exact iY h.nu Bm t dM d
    .exact q.pl.ne d f.tx (by decide) rfl
    .exact v.pl.ne d f.tx (by decide) rfl
   have zr:∀g,K.tv.ownBlock=some g->¬(F g\/g=I.k\/g=I.kl\/g=J.u\/I.pv.ownBlock=some g\/J.tv.ownBlock=some g):=λg e d=>by
    rcases d with d|d|d|d|d|d
    .exact h.fM _ (f.pl.row g e) d
    .exact f.pl.ne e q.st (by decide) d
    .exact f.pl.ne e q.lp (by decide) d
    .exact f.pl.ne e v.tx (by decide) d
    .exact h.r3 I (gz m) K (gz Bm) g d e
    .exact h.r2 _ _ _ _ Bm t dM g e d
   by_cases P:K.i=i
   .rw [P,m] at E;cases E;exact⟨I',by rw [P];exact List.getElem?_set_self KV,by rw [Bj];exact f.other W U hy zu zr z⟩
   .exact⟨M,by rw [List.getElem?_set_ne (λh=>P h.symm)];exact E,f.other W U rfl zu zr z⟩
 .rcases dr m D with ⟨_,rfl⟩|⟨N,EO⟩<;> rcases dr m x with ⟨_,rfl⟩|⟨O,eH⟩
  .omega
  .rcases aa6 g o with l|l
   .exact h.r1 _ _ _ _ m eH (λe=>O e.symm) g l p
   .have:=Ty eH g p;omega
  .rcases aa6 g p with l|l
   .exact h.r1 _ _ _ _ EO m N g o l
   .have:=Ty EO g o;omega
  .exact h.r1 _ _ _ _ EO eH oE g o p
 .rcases dr t D with ⟨_,rfl⟩|⟨N,EO⟩<;> rcases dr t x with ⟨_,rfl⟩|⟨O,eH⟩
  .omega
  .rcases aa7 g o with l|l
   .exact h.r2 _ _ _ _ t eH (λe=>O e.symm) g l p
   .have:=Le eH g p;omega
  .rcases aa7 g p with l|l
   .exact h.r2 _ _ _ _ EO t N g o l
   .have:=Le EO g o;omega
  .exact h.r2 _ _ _ _ EO eH oE g o p
 .obtain⟨a,D⟩:=List.mem_iff_getElem?.1 hA;obtain⟨b,x⟩:=List.mem_iff_getElem?.1 hB;rcases dr m D with ⟨_,rfl⟩|⟨N,EO⟩<;> rcases dr t x with ⟨_,rfl⟩|⟨O,eH⟩
  .exact Y g o p
  .rcases aa6 g o with l|l
   .exact h.r3 I (gz m) B (gz eH) g l p
   .have:=Le eH g p;omega
  .rcases aa7 g p with l|l
   .exact h.r3 A (gz EO) J (gz t) g o l
   .have:=Ty EO g o;omega
  .exact h.r3 A (gz EO) B (gz eH) g o p
end
end
section
def iJ {l:List Nat} {x:Nat} (h:l.Nodup) (f:x∉l):(l ++ [x]).Nodup:=by
 rw [List.nodup_append];exact⟨h,by simp,λa c b d e=>by
  have:b=x:=by simpa using d
  exact f (this▸e▸c)⟩
section
variable {w w':World} {F F' P:Nat->Prop} {p s c c' i:Nat} {S S':DS} {ss:List PI} {ts:List PT} {I:PI} {G':SG}
def PW.lK (h:PW w F P p s S c ss ts) (m:∀g,F' g->more F w w' g) (hd:B.ax w' F' p s S' c') (a:aa F w w'):PW w' F' P p s S' c' ss ts:=by
 refine⟨hd,λg f i=>?_,λg f=>i5 (h.lt g f) a.size,λI n=>?_,λJ o=>?_,h.nq,h.nl,h.nm,h.nt⟩
 .rcases m g i with i|i
  .exact h.fM g f i
  .have:=h.lt g f;omega
 .obtain⟨e,j,k,⟨b,d,p3⟩,l⟩:=h.st I n;exact⟨e.aw a (h.fM _ b),j.aw a (h.fM _ d),k.aw a (h.fM _ p3),⟨b,d,p3⟩,l⟩
 .obtain⟨I,q,e,j,⟨b,d⟩,k⟩:=h.tx J o;exact⟨I,q,(a.block _ (aq e) (h.fM _ b)).trans e,j.aw a (h.fM _ d),⟨b,d⟩,k⟩
def PW.onS (h:PW w F P p s S c ss ts) (j:ss[i]? =some I) (Q:G'.y=I.G.y) (O:∀g,F' g->more F w w' g) (bw:it w' F' p s c' I.q I.l I.m S' G') (u:aa (λg=>F g\/g=I.q\/g=I.l\/g=I.m) w w'):
  PW w' F' P p s S' c' (ss.set i {I with G:=G'}) ts:=by
 obtain⟨Xe,Xf,o,⟨U,R,T⟩,_⟩:=h.st I (gz j);have xv:=List.nodup_append.1 h.nm;refine⟨bw.d,λg D a=>?_,λg D=>i5 (h.lt g D) u.size,λK C=>?_,λK C=>?_,by rw [mY (f:=λx:PI=>x.q) (b:={I with G:=G'}) j rfl];exact h.nq,by rw [mY (f:=λx:PI=>x.l) (b:={I with G:=G'}) j rfl];exact h.nl,by rw [mY (f:=λx:PI=>x.m) (b:={I with G:=G'}) j rfl];exact h.nm,h.nt⟩
 .rcases O g a with a|a
  .exact h.fM g D a
  .have:=h.lt g D;omega
 .obtain⟨n,v⟩:=List.mem_iff_getElem?.1 C;rcases dr j v with ⟨_,rfl⟩|⟨e,v⟩
  .exact⟨bw.st,bw.lp,bw.ch,⟨U,R,T⟩,bw.lk,bw.bg,bw.hs,bw.kb⟩
  .obtain⟨k,r,t,⟨z,A,p3⟩,N⟩:=h.st K (gz v);refine⟨k.aw u (λa=>?_),r.aw u (λa=>?_),t.aw u (λa=>?_),⟨z,A,p3⟩,N⟩
   .rcases a with a|a|a|a
    .exact h.fM _ z a
    .exact iY h.nq v j e a
    .exact cY k Xf (by decide) a
    .exact lq o k a.symm
   .rcases a with a|a|a|a
    .exact h.fM _ A a
    .exact cY r Xe (by decide) a
    .exact iY h.nl v j e a
    .exact lq o r a.symm
   .rcases a with a|a|a|a
    .exact h.fM _ p3 a
    .exact lq t Xe a
    .exact lq t Xf a
    .exact iY xv.1 v j e a
 .obtain⟨M,H,k,r,⟨z,A⟩,t⟩:=h.tx K C;have J:=(u.block _ (aq k) (λa=>by
   rcases a with a|a|a|a
   .exact h.fM _ z a
   .exact cY k Xe (by decide) a
   .exact cY k Xf (by decide) a
   .exact lq o k a.symm)).trans k
  have L:=r.aw u (λa=>by
   rcases a with a|a|a|a
   .exact h.fM _ A a
   .exact lq r Xe a
   .exact lq r Xf a
   .exact(xv.2.2 I.m (List.mem_map_of_mem (gz j)) K.n (List.mem_map_of_mem C)) a.symm)
  by_cases E:K.i=i
  .rw [E,j] at H;cases H;exact⟨{I with G:=G'},by rw [E];exact List.getElem?_set_self ((mL.1 j).1),J,L,⟨z,A⟩,by rw [show ({I with G:=G'}:PI).G=G' from rfl,Q];exact t⟩
  .exact⟨M,by rw [List.getElem?_set_ne (λh=>E h.symm)];exact H,J,L,⟨z,A⟩,t⟩
def PW.push {q l m:Nat} (h:PW w F P p s S c ss ts) (z:∀g,F' g->more F w w' g) (bw:it w' F' p s c' q l m S' G') (G:w.heap.size<=q) (D:w.heap.size<=l) (E:w.heap.size<=m) (A:aa F w w'):
  PW w' F' (λg=>P g\/g=q\/g=l\/g=m) p s S' c' (ss ++ [⟨q,l,m,G'⟩]) ts:=by
 have hd:=h.lK z bw.d A;have old:∀{g},P g->g<w.heap.size:=λj=>h.lt _ j;have xv:=List.nodup_append.1 h.nm;refine⟨bw.d,λg j i=>?_,λg j=>?_,λK f=>?_,λK f=>?_,?_,?_,?_,h.nt⟩
 .rcases j with j|rfl|rfl|rfl
  .exact hd.fM g j i
  .exact bw.nq i
  .exact bw.nl i
  .exact bw.nm i
 .rcases j with j|rfl|rfl|rfl
  .exact hd.lt g j
  .exact bw.st.lt
  .exact bw.lp.lt
  .exact bw.ch.lt
 .rcases List.mem_append.1 f with f|f
  .obtain⟨o,r,t,⟨u,n,p3⟩,y⟩:=hd.st K f;exact⟨o,r,t,⟨.inl u, .inl n, .inl p3⟩,y⟩
  .rw [List.mem_singleton.1 f];exact⟨bw.st,bw.lp,bw.ch,⟨.inr (.inl rfl), .inr (.inr (.inl rfl)), .inr (.inr (.inr rfl))⟩,bw.lk,bw.bg,bw.hs,bw.kb⟩
 .obtain⟨M,v,o,r,⟨u,n⟩,t⟩:=hd.tx K f;exact⟨M,by rw [List.getElem?_append_left (mL.1 v).1];exact v,o,r,⟨.inl u, .inl n⟩,t⟩
 .rw [List.map_append];refine iJ h.nq (λi=>?_);obtain⟨K,f,e⟩:=List.mem_map.1 i;have:=old (h.st K f).2.2.2.1.1;simp only at e;omega
 .rw [List.map_append];refine iJ h.nl (λi=>?_);obtain⟨K,f,e⟩:=List.mem_map.1 i;have:=old (h.st K f).2.2.2.1.2.1;simp only at e;omega
 .rw [List.map_append,List.nodup_append];refine⟨iJ xv.1 (λi=>?_),xv.2.1,λa k b x=>?_⟩
  .obtain⟨K,f,e⟩:=List.mem_map.1 i;have:=old (h.st K f).2.2.2.1.2.2;simp only at e;omega
  .rcases List.mem_append.1 k with k|k
   .exact xv.2.2 a k b x
   .have C:a=m:=(by simpa using k);obtain⟨K,f,rfl⟩:=List.mem_map.1 x;obtain⟨M,_,_,_,⟨_,n⟩,_⟩:=h.tx K f;have:=old n;omega
def PW.aa8 {t:Nat} (h:PW w F P p s S c ss ts) (D:ss[i]? =some I) (nQ:w.heap[t]? =some (.cells (BI I.q n ⟨[],0,false⟩) 88 (0,0))) (nh:Ch w n []) (E:¬P t) (v:¬P n) (z:¬F t) (y:¬F n):
  PW w F (λg=>P g\/g=t\/g=n) p s S c ss (ts ++ [⟨i,t,n,⟨[],0,false⟩⟩]):=by
 have xv:=List.nodup_append.1 h.nm;refine⟨h.d,λg f b=>?_,λg f=>?_,λK a=>?_,λK a=>?_,h.nq,h.nl,?_,?_⟩
 .rcases f with f|rfl|rfl
  .exact h.fM g f b
  .exact z b
  .exact y b
 .rcases f with f|rfl|rfl
  .exact h.lt g f
  .exact aq nQ
  .exact nh.lt
 .obtain⟨o,r,u,⟨k,l,p3⟩,A⟩:=h.st K a;exact⟨o,r,u,⟨.inl k, .inl l, .inl p3⟩,A⟩
 .rcases List.mem_append.1 a with a|a
  .obtain⟨M,C,o,r,⟨k,l⟩,u⟩:=h.tx K a;exact⟨M,C,o,r,⟨.inl k, .inl l⟩,u⟩
  .rw [List.mem_singleton.1 a];exact⟨I,D,nQ,nh,⟨.inr (.inl rfl), .inr (.inr rfl)⟩,λx b=>by cases b⟩
 .rw [List.map_append,<-List.append_assoc];refine iJ h.nm (λb=>?_);rcases List.mem_append.1 b with b|b
  .obtain⟨K,a,e⟩:=List.mem_map.1 b;have j:K.m=n:=e;exact v (j▸(h.st K a).2.2.2.1.2.2)
  .obtain⟨K,a,e⟩:=List.mem_map.1 b;obtain⟨M,_,_,_,⟨_,l⟩,_⟩:=h.tx K a;have j:K.n=n:=e;exact v (j▸l)
 .rw [List.map_append];refine iJ h.nt (λb=>?_);obtain⟨K,a,e⟩:=List.mem_map.1 b;obtain⟨M,_,_,_,⟨k,_⟩,_⟩:=h.tx K a;have j:K.t=t:=e;exact E (j▸k)
end
end
section
section
variable {w w':World} {F F' X X' X2:Nat->Prop} {r s i j:Nat} {S S':DS} {ss:List RI} {ts:List RJ} {I I':RI} {J J':RJ}
def iL.nx {j:Value} (h:iL w F X r s S k kl G j ps hm nv) (d:aa F w w') (n:∀g,F' g->more F w w' g) (o:G.L.dead S'=false->G.L.dead S=false/\∀b,b<G.y.blocks->S'.now (G.y.home+b)=S.now (G.y.home+b)):iL w' F' X r s S' k kl G j ps hm nv:=
   ⟨h.st.aw d (h.fM _ h.xk),h.lp.aw d (h.fM _ h.xl),h.pl.aw d (λg e=>h.fM _ (h.pl.row g e)) (λg _ _ f _=>h.fM g f),h.xk,h.xl,λg a f=>(n g f).elim (h.fM g a) (λf=>by have:=h.lt g a;omega),λg a=>i5 (h.lt g a) d.size,h.lk,h.bg,h.hs,h.lh,h.ov,h.hm,h.kb,λhd b i a c p=>by
  obtain⟨l,m⟩:=o hd;rw [m b i];exact h.un l b i a c p⟩
def RW.lK (h:RW w F X r s S ss ts) (d:∀g,F' g->more F w w' g) (l:aC w' F' r s S') (c:aa F w w') (k:∀I∈ss,I.G.L.dead S'=false->I.G.L.dead S=false/\∀b,b<I.G.y.blocks->S'.now (I.G.y.home+b)=S.now (I.G.y.home+b)):RW w' F' X r s S' ss ts:=by
 refine⟨l,λg a f=>(d g f).elim (h.fM g a) (λf=>by have:=h.lt g a;omega),λg a=>i5 (h.lt g a) c.size,λI e=>(h.st I e).nx c d (k I e),λJ j=>?_,h.nk,h.nl,h.nu,h.r1,h.r2,h.r3⟩;obtain⟨I,m,i⟩:=h.tx J j;exact⟨I,m,i.aw c h.fM⟩
def RW.onS (h:RW w F X r s S ss ts) (j:ss[i]? =some I) (Bj:I'.k=I.k) (Ul:I'.kl=I.kl) (W:I'.G.y=I.G.y)
    (R:aC w' F' r s S') (bw:iL w' F' X r s S' I'.k I'.kl I'.G I'.pv I'.ps I'.hm I'.nv) (xD:I'.pv=I.pv)
    (z:aa (λg=>F g\/g=I.k\/g=I.kl) w w') (P:S'=S\/∀n K,ss[n]? =some K->n≠i->K.G.L.dead S'=true):
  RW w' F' X r s S' (ss.set i I') ts:=by
 have l:=h.jR j;have m:∀g c H,X g->ay w 5 g c H->¬(F g\/g=I.k\/g=I.kl):=λg c H T D d=>by
  rcases d with d|d|d
  .exact h.fM g T d
  .exact D.ne l.st (by decide) d
  .exact D.ne l.lp (by decide) d
 refine⟨R,bw.fM,bw.lt,λK t=>?_,λK t=>?_,by rw [mY j Bj];exact h.nk,by rw [mY j Ul];exact h.nl,h.nu,λa b A B x Q oE g o p=>?_,h.r2,λA O B C g o p=>?_⟩
 .obtain⟨n,U⟩:=List.mem_iff_getElem?.1 t;rcases dr j U with ⟨_,rfl⟩|⟨dM,Bm⟩
  .exact bw
  .have f:=h.jR Bm;refine f.other z (λ_ h=>h) bw.fM bw.lt (λd=>?_) (λd=>?_) (λg e d=>?_) m (P.imp id (λh=>h n K Bm dM))
   .rcases d with d|d|d
    .exact h.fM _ f.xk d
    .exact iY h.nk Bm j dM d
    .exact cY f.st l.lp (by decide) d
   .rcases d with d|d|d
    .exact h.fM _ f.xl d
    .exact cY f.lp l.st (by decide) d
    .exact iY h.nl Bm j dM d
   .rcases d with d|d|d
    .exact h.fM _ (f.pl.row g e) d
    .exact f.pl.ne e l.st (by decide) d
    .exact f.pl.ne e l.lp (by decide) d
 .obtain⟨M,v,f⟩:=h.tx K t;have N:¬(F K.u\/K.u=I.k\/K.u=I.kl):=λd=>by
   rcases d with d|d|d
   .exact h.fM _ f.xt d
   .exact cY f.tx l.st (by decide) d
   .exact cY f.tx l.lp (by decide) d
  have J:∀g,K.tv.ownBlock=some g->¬(F g\/g=I.k\/g=I.kl):=λg e d=>by
   rcases d with d|d|d
   .exact h.fM _ (f.pl.row g e) d
   .exact f.pl.ne e l.st (by decide) d
   .exact f.pl.ne e l.lp (by decide) d
  by_cases q:K.i=i
  .rw [q,j] at v;cases v;exact⟨I',by rw [q];exact List.getElem?_set_self ((mL.1 j).1),by rw [Bj];exact f.other z (λ_ h=>h) W N J m⟩
  .exact⟨M,by rw [List.getElem?_set_ne (λh=>q h.symm)];exact v,f.other z (λ_ h=>h) rfl N J m⟩
 .rcases dr j x with ⟨_,rfl⟩|⟨E,EO⟩<;> rcases dr j Q with ⟨_,rfl⟩|⟨Y,eH⟩
  .omega
  .exact h.r1 _ _ _ _ j eH (λe=>Y e.symm) g (xD▸o) p
  .exact h.r1 _ _ _ _ EO j E g o (xD▸p)
  .exact h.r1 _ _ _ _ EO eH oE g o p
 .obtain⟨a,x⟩:=List.mem_iff_getElem?.1 O;rcases dr j x with ⟨_,rfl⟩|⟨E,EO⟩
  .exact h.r3 I (gz j) B C g (xD▸o) p
  .exact h.r3 A (gz EO) B C g o p
def RW.push (h:RW w F X r s S ss ts) (z:∀g,F' g->more F w w' g) (Mw:∀g,X2 g->w.heap.size<=g) (t:aC w' F' r s S') (bw:iL w' F' X2 r s S' I.k I.kl I.G I.pv I.ps I.hm I.nv) (xD:I.pv.ownBlock=none) (H:aa F w w') (C:∀K∈ss,K.G.L.dead S'=true):
  RW w' F' (λg=>X g\/X2 g) r s S' (ss ++ [I]) ts:=by
 have hd:=h.lK z t H (λK c i=>by rw [C K c] at i;cases i);have BY:∀g,(X g\/X2 g)->¬F' g:=λg o=>o.elim (hd.fM g) (bw.fM g);have d:∀g,(X g\/X2 g)->g<w'.heap.size:=λg o=>o.elim (hd.lt g) (bw.lt g);have N:∀{K:RI},iL w' F' X r s S' K.k K.kl K.G K.pv K.ps K.hm K.nv->iL w' F' (λg=>X g\/X2 g) r s S' K.k K.kl K.G K.pv K.ps K.hm K.nv:=λg=>⟨g.st,g.lp,g.pl.mono (λ_ h=> .inl h), .inl g.xk, .inl g.xl,BY,d,g.lk,g.bg,g.hs,g.lh,g.ov,g.hm,g.kb,g.un⟩;refine⟨t,BY,d,λK c=>?_,λK c=>?_,?_,?_,h.nu,λa b A B D E oE g f m=>?_,h.r2,λA j B y g f m=>?_⟩
 .rcases List.mem_append.1 c with c|c
  .exact N (hd.st K c)
  .rw [List.mem_singleton.1 c];exact⟨bw.st,bw.lp,bw.pl.mono (λ_ h=> .inr h), .inr bw.xk, .inr bw.xl,BY,d,bw.lk,bw.bg,bw.hs,bw.lh,bw.ov,bw.hm,bw.kb,bw.un⟩
 .obtain⟨M,q,g⟩:=hd.tx K c;exact⟨M,by rw [List.getElem?_append_left (mL.1 q).1];exact q,g.mono (λ_ h=> .inl h)⟩
 .rw [List.map_append];refine iJ h.nk (λi=>?_);obtain⟨K,c,e⟩:=List.mem_map.1 i;have u:K.k=I.k:=e;have v:=h.lt _ (h.st K c).xk;have x:=Mw _ bw.xk;omega
 .rw [List.map_append];refine iJ h.nl (λi=>?_);obtain⟨K,c,e⟩:=List.mem_map.1 i;have u:K.kl=I.kl:=e;have v:=h.lt _ (h.st K c).xl;have x:=Mw _ bw.xl;omega
 .have l:∀{n:Nat} {A:RI},(ss ++ [I])[n]? =some A->A.pv.ownBlock=some g->ss[n]? =some A:=λ{n A} p e=>by
   by_cases J:n<ss.length
   .rwa [List.getElem?_append_left J] at p
   .rw [List.getElem?_append_right (by omega)] at p;have:A=I:=by
     have:=gz p;simpa using this
    rw [this,xD] at e;cases e
  exact h.r1 _ _ _ _ (l D f) (l E m) oE g f m
 .rcases List.mem_append.1 j with j|j
  .exact h.r3 A j B y g f m
  .rw [List.mem_singleton.1 j,xD] at f;cases f
def RW.aa8 (h:RW w F X r s S ss ts) (E:ss[i]? =some I) (nQ:ni w u I.k (.slice none 0 0) ⟨[],0,false⟩) (H:¬X u) (y:¬F u):
  RW w F (λg=>X g\/g=u) r s S ss (ts ++ [⟨i,u, .slice none 0 0, [],⟨[],0,false⟩⟩]):=by
 have BY:∀g,(X g\/g=u)->¬F g:=λg o=>o.elim (h.fM g) (λe=>e▸y);have l:∀g,(X g\/g=u)->g<w.heap.size:=λg o=>o.elim (h.lt g) (λe=>e▸nQ.lt);refine⟨h.e,BY,l,λK c=>?_,λK c=>?_,h.nk,h.nl,?_,h.r1,λa b A B C D oE g m d=>?_,λA z B f g m d=>?_⟩
 .have g:=h.st K c;exact⟨g.st,g.lp,g.pl.mono (λ_ h=> .inl h), .inl g.xk, .inl g.xl,BY,l,g.lk,g.bg,g.hs,g.lh,g.ov,g.hm,g.kb,g.un⟩
 .rcases List.mem_append.1 c with c|c
  .obtain⟨M,t,g⟩:=h.tx K c;exact⟨M,t,g.mono (λ_ h=> .inl h)⟩
  .rw [List.mem_singleton.1 c];exact⟨I,E,⟨nQ, .inr rfl,Pl.nil _ _,List.nodup_nil,λ_=>rfl,λx q=>(by cases q),dV _⟩⟩
 .rw [List.map_append];refine iJ h.nu (λq=>?_);obtain⟨K,c,e⟩:=List.mem_map.1 q;have v:K.u=u:=e;obtain⟨M,t,g⟩:=h.tx K c;exact H (v▸g.xt)
 .have j:∀{n:Nat} {A:RJ},(ts ++ [⟨i,u, .slice none 0 0, [],⟨[],0,false⟩⟩])[n]? =some A->A.tv.ownBlock=some g->ts[n]? =some A:=λ{n A} p e=>by
   by_cases G:n<ts.length
   .rwa [List.getElem?_append_left G] at p
   .rw [List.getElem?_append_right (by omega)] at p;have:A=⟨i,u, .slice none 0 0, [],⟨[],0,false⟩⟩:=by
     have:=gz p;simpa using this
    rw [this] at e;simp [Value.ownBlock] at e
  exact h.r2 _ _ _ _ (j C m) (j D d) oE g m d
 .rcases List.mem_append.1 f with f|f
  .exact h.r3 A z B f g m d
  .rw [List.mem_singleton.1 f] at d;simp [Value.ownBlock] at d
end
end
def IN (n:Int) (i:Nat):Int:=if i%7=3 then IntKind.u8.wrap (n / 256) else IntKind.u8.wrap n
def IP (n:Int):List Int:=(List.range 512).map (IN n)
def uO (n:Int):(IP n).length=512:=by simp [IP]
def B3 (n:Int) (k:Nat):List Int:=(List.range k).map (IN n) ++ List.replicate (512-k) 0
def Uf (n:Int) (h:k<=512):(B3 n k).length=512:=by simp [B3];omega
def Ug (n:Int) (h:k<512):(B3 n k).set k (IN n k)=B3 n (k+1):=by
 unfold B3;rw [List.set_append_right _ _ (by simp),List.range_succ,List.map_append,List.append_assoc];congr 1;simp only [List.length_map,List.length_range,Nat.sub_self];rw [show 512-k=(512-(k+1))+1 by omega,List.replicate_succ];rfl
def Uh (n:Int):B3 n 512=IP n:=by simp [B3,IP]
def Ph (n:Int) (w:World):
  Calls prog 130 #[iV n] w λe w'=>e= .returned (.slice (some (aD w.heap.size 0)) 512 512)/\ay w' 5 w.heap.size 512 (bs (IP n))/\bW w w':=by
 obtain⟨p,o,gB,dC,eu⟩:=info_parts gh;go_in;go_wp2_with (at_make;refine wpList_make_full _ rfl _ _ 22 rfl w.heap.size 5 p (.int .u8 0) 1 underlying22 o gB dC _ _ _ _ 512 rfl rfl (by omega) (by omega) (by rw [eu];omega) (by unfold maxLen;omega) (bS _) ?_);intro w1 aA aR;have f:=(bi _ w).grown aR (bS _) (by intro k c;cases c);have g:Full w1 w.heap.size (B3 n 0):=(lS aA).full (by simp [bs]);have l:=g;have j:=f;clear aA aR g f;go_wp2;go_loopw [4] (λi wr=>∃k:Nat,k<=512/\i=iV (k:Int)/\Full wr w.heap.size (B3 n k)/\bW w wr) (λi _=>512-(intOf i).toNat);case atStart=>exact⟨0,by omega,rfl,l,j⟩
 case round=>
  obtain⟨k,c,rfl,ww,ev⟩:=hrel;by_cases q:k<512
  .have r:(k:Int)<512:=(by omega);have s:=ww.cell (i:=k) (by rw [Uf n c];exact q);have u:=ww.frozen k;have t:(k:Int).tmod 7=((k%7:Nat):Int):=(by rw [Int.tmod_eq_emod_of_nonneg (by omega)];omega);have Mp:=ww;have mh:=ev;have d:=Ug n q;clear ww ev;by_cases b:k%7=3
   .have m:(((k%7:Nat):Int) == 3)=true:=(by rw [b];rfl);have Ys:IN n k=IntKind.u8.wrap (n / 256):=(by unfold IN;rw [aG b]);have a:=Ys;clear Ys b;go_wp2;go_roundw;case rel=>exact⟨k+1,by omega,by go_num,by rw [<-d,a,<-C6 (B3 n k) k (n%256)];exact(Mp.set k _).set k _,(mh.setCell (bS _) _).setCell (bS _) _⟩
    case measure=>simp [intOf];omega
   .have m:(((k%7:Nat):Int) == 3)=false:=(by rw [fJ];omega);have Ys:IN n k=IntKind.u8.wrap n:=(by unfold IN;rw [aB b]);have a:=Ys;clear Ys b;go_wp2;go_roundw;case rel=>exact⟨k+1,by omega,by go_num,by rw [<-d,a];exact Mp.set k _,mh.setCell (bS _) _⟩
    case measure=>simp [intOf];omega
  .have r:¬(k:Int)<512:=(by omega);obtain rfl:k=512:=(by omega);rw [Uh] at ww;have Mp:=ww;have mh:=ev;clear ww ev;go_wp2;go_ret;exact⟨rfl,by have:=ay.EH Mp (by rw [uO];omega);rwa [uO] at this,mh⟩
def LK (n:Int):Bytes (IP n):=λx c=>by
 unfold IP at c;obtain⟨i,_,rfl⟩:=List.mem_map.1 c;unfold IN;split
 .have a:0<=n / 256%256:=Int.emod_nonneg _ (by decide);have b:n / 256%256<256:=Int.emod_lt_of_pos _ (by decide);exact⟨a,b⟩
 .have a:0<=n%256:=Int.emod_nonneg _ (by decide);have b:n%256<256:=Int.emod_lt_of_pos _ (by decide);exact⟨a,b⟩
abbrev j2 (kd ag A B:Int) (da:Option Addr) (dn dc:Nat) (pa:Option Addr) (pn pc:Nat) (x y z:Int):Array Value:= #[iV kd,iV ag,iV A,iV B, .slice da dn dc, .slice pa pn pc,iV x,iV y,iV z]
def lr (B:Int) (d:List Int):List Int:=if d.length=0/\B≠0 then IP B else d
def lL (o m A B:Int) (i:Option Addr) (a k:Nat) (p:Option Addr) (s r:Nat) (x y z:Int) (d:List Int) (w:World) (n:Src w i a d) (E:a<=140737488355328):
  Calls prog 77 #[.agg (j2 o m A B i a k p s r x y z)] w λe w'=>∃g,e= .returned (.slice (some (aD g 0)) (lr B d).length (lr B d).length)/\w.heap.size<=g/\ay w' 5 g (lr B d).length (bs (lr B d))/\bW w w':=by
 have t:=n.1;obtain⟨W,b⟩:=bQ (w.alloc (.cells (j2 o m A B i a k p s r x y z) 42));have EN:bW w W:=by rw [b];exact(bi w.heap.size w).alloc (bS _) _
 have BX:W.heap[w.heap.size]? =some (.cells (j2 o m A B i a k p s r x y z) 42 (0,0)):=by rw [b];exact heap_alloc_new _ _
 have G:W.cell? (aD w.heap.size 3)=some (iV B):=fQ BX;have H:W.cell? (aD w.heap.size 4)=some (.slice i a k):=gG BX;have l:=tw i a k d W E (n.later EN);have CW:=EN;have Hu:W.heap.size=w.heap.size+1:=by rw [b,World.size_alloc]
 unfold lr;clear n EN BX;by_cases q:d.length=0/\B≠0
 .rw [aG q,uO];obtain⟨u,v⟩:=q;obtain rfl:a=0:=by omega
  have C:(B != 0)=true:=by rw [gA];exact v
  clear v l;go_in;go_wp2_with fail;try rw [<-b]
  try clear b
  try go_wp2_with fail
  refine(Ph B W).mono ?_;rintro e w1 ⟨rfl,f,c⟩;have j:=(aH f (CW.trans (c.mono (by omega))));clear f c;go_wp2;go_ret;exact⟨w.heap.size+1,rfl,by omega,by rw [<-Hu];exact j⟩
 .rw [aB q,t];by_cases u:a=0
  .subst u;have C:(B != 0)=false:=(by rw [bne_eq_false_iff_eq];exact Decidable.byContradiction (λh=>q ⟨t,h⟩));clear q;go_in;go_wp2_with fail;try rw [<-b]
   try clear b
   try go_wp2_with fail
   refine l.mono ?_;rintro e w1 ⟨g,rfl,D,f,c⟩;have j:=(aH f (CW.trans (c.mono (by omega))));clear l f c;go_wp2;go_ret;exact⟨g,rfl,by omega,j⟩
  .have F:((a:Int) == 0)=false:=(by rw [fJ];omega);clear q;go_in;go_wp2_with fail;try rw [<-b]
   try clear b
   try go_wp2_with fail
   refine l.mono ?_;rintro e w1 ⟨g,rfl,D,f,c⟩;have j:=(aH f (CW.trans (c.mono (by omega))));clear l f c;go_wp2;go_ret;exact⟨g,rfl,by omega,j⟩
end Go.Proofs.YtcpdggdfihjhoabGreat
