import Derived.Test.YtenlkgicpllbhabGreatW01
import Derived.Test.YtenlkgicpllbhabGreatW15
import Derived.Test.YtenlkgicpllbhabGreatW16
import Derived.Test.YtenlkgicpllbhabGreatW17
import Derived.Test.YtenlkgicpllbhabGreatW19
set_option maxRecDepth 20000
set_option maxHeartbeats 8000000
set_option linter.all false
namespace Go.Proofs.YtenlkgicpllbhabGreat
open Go.Proofs.Tryz
open Go.RowKit Go.Maps
variable {S':DS} {f x:Int} {L:LG} {rs:List (List Int)} {a hd n:Nat} {F7:Nat->Prop} {v:Value}
section
theorem BM {S:DS} {s:Nat} {n:Int} (h:cq S s f n≠0):bu S s f n=(cq S s f n,S):=by unfold bu;rw [aE h]
theorem i7 {S:DS} {s b:Nat} (h:cq S s a b=0) (c:(bV S a).2.2=6):bu S s a b=(6,S.take):=by
 unfold bu;rw [aA (by omega),Int.toNat_natCast,aE (by omega),c];rfl
theorem K0 {S:DS} {s b:Nat} (h:cq S s a b=0) (d:(bV S a).2.2=0) (c:ia S a b=1073741824):bu S s a b=(41,S.take):=by
 unfold bu;rw [aA (by omega),Int.toNat_natCast,Int.toNat_natCast,aA (by omega),aE c]
theorem Id {S:DS} {s b:Nat} (h:cq S s a b=0) (d:(bV S a).2.2=0) (c:ia S a b≠1073741824):bu S s a b=S.take.fl s:=by
 unfold bu;rw [aA (by omega),Int.toNat_natCast,Int.toNat_natCast,aA (by omega),aA c]
section
variable {w w':World} {F G:Nat->Prop} {r s k:Nat} {S:DS} {L:LG}
theorem ix {n:Int} {c:Int} {T:DS} (h:bu S s f n=(c,T)) (a:c≠0) (hd:aB w' F r s T) (b:aa F w w'):qY w w' r s S f n (.returned (.tuple #[.pointer none, .slice none 0 0,iV c]))/\aB w' F r s (bu S s f n).2/\aa F w w':=by
 unfold qY;rw [h];exact⟨by rw [aE a],hd,b⟩
theorem Ie {b:Nat} (h:bu S s (a:Int) (b:Int)=S.take.fl s) (c:(S.take.fl s).1=0) (Pv:aB w' F r s (S.take.fl s).2) (d:aa F w w') (ox:w.heap.size<=k) (e:ST w' w.heap.size k r (LG.new S a b) S v rs hd):
  qY w w' r s S (a:Int) (b:Int) (.returned (.tuple #[pQ k,v,iV 0]))/\aB w' F r s (bu S s (a:Int) (b:Int)).2/\aa F w w':=by
 unfold qY;rw [h];refine⟨?_,Pv,d⟩;rw [aA (λh=>h c)];exact⟨k,v,rs,hd,rfl,ox,e⟩
theorem SU {W:World} {B:Nat} {e:TypeId} {xs:List Value} {g:Nat} (h:W.ownsRow B e 1 v n xs) (b:v.ownBlock=some g):g<W.heap.size:=by
 obtain⟨cur,a⟩:=bJ h b;exact aw a
theorem OK (h:aB w F r s S) (cZ:S.fC) (f n:Int) (aT:S.puts.length+500<=4000000000000):
  Calls prog 117 #[pQ r,iV f,iV n] w λe w'=>qY w w' r s S f n e/\aB w' F r s (bu S s f n).2/\aa F w w':=by
 have l:=CD h f n;have ib:=yh h.lt;have HD:=yh h;go_in;go_wp2_with fail;by_cases q:cq S s f n=0
 .have y:=yh q;obtain⟨Y6,a,b,rfl,rfl,oz,aq,aW⟩:=fM q;rw [q] at l;have hs:=h.ok.hi;have R:=zm h;have hlA:=br h.ok a (by omega);have hlB:=br h.ok (a+1) (by omega);have km:=rC (S.now a) (S.now (a+1));have t:bV S a=gU (S.now a) (S.now (a+1)):=rfl;have Fi:=yh cZ;have HN:=yh (λa1 c1 a2 c2 w1 q1 q2=>mn a1 512 c1 (S.now a) a2 512 c2 (S.now (a+1)) w1 q1 q2 (cZ.now a) (cZ.now (a+1)));have mN:=FZ (S.now a) (S.now (a+1));unfold gU at t;generalize am (S.now a) (S.now (a+1))=X at*;obtain⟨x1,N,D,ER⟩:=X;simp only at t km HN mN;have K1:=yh t;clear h q cZ t;refine bE l λw1 bN=>?_;have j9:=bN.symm;clear bN;subst j9;clear l;go_wp2_with fail;refine fk R λG cC aX=>?_;have sj:=yh cC;have gQ:=yh aX;have ec:=aX.size;have h3:=jF cC a (by omega) (by show S.puts.length<=_;omega);have h4:=jF cC (a+1) (by omega) (by show S.puts.length<=_;omega);rw [show ((a+1:Nat):Int)=(a:Int)+1 by omega] at h4;clear R cC aX;go_wp2_with fail;refine h3.mono ?_;rintro e w3 ⟨g3,c3,rfl,_,ml,eB⟩;have eS:=eB.symm;clear eB;subst eS;have fB:=ml.src;rw [show S.take.now a=S.now a from rfl,hlA] at fB;have I:=yh fB;clear h3 ml fB;go_wp2_with fail;refine h4.mono ?_;rintro e w4 ⟨g4,c4,rfl,_,Mw,tD⟩;have Ex:=tD.symm;clear tD;subst Ex;have GH:=Mw.src;rw [show S.take.now (a+1)=S.now (a+1) from rfl,hlB] at GH;have h5:=HN.o (some (aD g3 0)) c3 (some (aD g4 0)) c4 G I.o GH;clear h4 Mw GH HN I;go_wp2_with fail;refine h5.mono ?_;rintro e w5 ⟨v5,rfl,FR,ff⟩;obtain⟨a5,c5,rfl,Xx,_,_⟩:=FR.src;have jd:=yh ff;have qE:=ff.size;have rS:Yh (aa F w w5):=gQ.o.trans (aa.ah F ff) (λ_ h=> .inl h);have k:=yh (sj.o.later ff);clear h5 FR ff Xx;have q1:(N:Int).tdiv 4294967296=((N / 4294967296:Nat):Int):=by rw [Int.tdiv_eq_ediv_of_nonneg (by omega)];omega
  have q2:(N:Int).tmod 4294967296=((N%4294967296:Nat):Int):=by rw [Int.tmod_eq_emod_of_nonneg (by omega)];omega
  have hE0:N / 4294967296<=2147483647:=by omega
  have hT0:N%4294967296<4294967296:=by omega
  obtain⟨E,hE⟩:=bQ (N / 4294967296);obtain⟨T,hT⟩:=bQ (N%4294967296);obtain⟨P,sX⟩:=bQ D.length;rw [<-hE] at q1 hE0 K1;rw [<-hT] at q2 hT0 K1;rw [<-sX] at K1 mN⊢;clear hE hT sX;by_cases k1:ER=0
  .subst k1;by_cases k2:0<P
   .have j:=yh (i7 (b:=b) y.o (by rw [K1.o,aE (.inr (.inl k2))]));have d2:(0:Int)<(P:Int):=(by omega);clear K1;go_wp2;go_ret3;exact ix j.o (by omega) k.o rS.o
   .have d2:¬(0:Int)<(P:Int):=(by omega);obtain rfl:P=0:=(by omega);by_cases k3:E<1
    .have j:=yh (i7 (b:=b) y.o (by rw [K1.o,aE (.inr (.inr (.inl k3)))]));have d3:(E:Int)<1:=(by omega);clear K1;go_wp2;go_ret3;exact ix j.o (by omega) k.o rS.o
    .have d3:¬(E:Int)<1:=(by omega);by_cases k4:1073741824<E
     .have j:=yh (i7 (b:=b) y.o (by rw [K1.o,aE (.inr (.inr (.inr (.inl k4))))]));have d4:(1073741824:Int)<(E:Int):=(by omega);clear K1;go_wp2;go_ret3;exact ix j.o (by omega) k.o rS.o
     .have d4:¬(1073741824:Int)<(E:Int):=(by omega);by_cases k5:1073741824<T
      .have j:=yh (i7 (b:=b) y.o (by rw [K1.o,aE (.inr (.inr (.inr (.inr k5))))]));have d5:(1073741824:Int)<(T:Int):=(by omega);clear K1;go_wp2;go_ret3;exact ix j.o (by omega) k.o rS.o
      .have d5:¬(1073741824:Int)<(T:Int):=(by omega);have x:Yh (bV S a=(E,T,0)):=by
        have:=K1.o;rw [aA (by omega)] at this;exact this
       clear K1;have Ms:cH (w5.alloc (.cells (lrC r ⟨a,b,wrap64 (S.life+1),false,E,T,T,0⟩) 199)) w5.heap.size r ⟨a,b,wrap64 (S.life+1),false,E,T,T,0⟩:=heap_alloc_new _ _;have ny:=aI w5 (.cells (lrC r ⟨a,b,wrap64 (S.life+1),false,E,T,T,0⟩) 199);have U:=SQ E (k.o.later ny) Ms Fi.o.take (by show a+2+b<=s;omega) (by show S.puts.length+1<=_;omega) (by omega);have DJ:max E (rtop (dW S.take a) b)=ia S a b:=(by unfold ia;rw [x.o];rfl);rw [show (({f:=a,n:=b,life:=wrap64 (S.life+1),begun:=false,ep:=E,tail:=T,head:=T,top:=0}:LG).f)=a from rfl,show (({f:=a,n:=b,life:=wrap64 (S.life+1),begun:=false,ep:=E,tail:=T,head:=T,top:=0}:LG).n)=b from rfl,DJ] at U;have Ag:=xF (S:=S) (f:=a) (n:=b) (by rw [x.o]);obtain⟨Q,hQ⟩:=bQ (ia S a b);rw [<-hQ] at U Ag;obtain⟨A,HL6,wO⟩:=jS hQ Ms ny;have Mf:(w5.alloc (.cells (lrC r ⟨a,b,wrap64 (S.life+1),false,E,T,T,0⟩) 199)).heap.size=w5.heap.size+1:=(by simp);clear hQ DJ Ms ny;go_wp2_with fail;refine bE U λW vU=>?_;have CV:=HL6.o.later vU;have Fk:Yh (bW G W):=jd.o.trans ((wO.o.trans (vU.mono (by omega))).mono qE);have c7:=CV.c7;have f7:=CV.fz 7;have CW:=CV.J0 Q;have HL8:=yh CW;have c7':(W.setCell ⟨w5.heap.size,7,none⟩ (.int .i64 (Q:Int))).cell? (aD w5.heap.size 7)=some (iV (Q:Int)):=CW.c7;have VX:Yh (bW G (W.setCell ⟨w5.heap.size,7,none⟩ (.int .i64 (Q:Int)))):=Fk.o.setCell (p:=⟨w5.heap.size,7,none⟩) qE _;clear U vU CV CW Fk;by_cases O:Q=1073741824
       .have j:=yh (K0 y.o (by rw [x.o]) (A.o.symm.trans O));have d6:((Q:Int) == 1073741824)=true:=(by rw [O];rfl);clear O;have Uj:Yh (aa F w _):=gQ.o.trans (aa.ah F VX.o) (λ_ h=> .inl h);go_wp2;go_ret3;exact ix j.o (by omega) (yh (sj.o.later VX.o)).out Uj.o
       .have d6:¬(Q:Int)=1073741824:=(by omega);have d6':((Q:Int) == 1073741824)=false:=(by rw [eG];omega);have j:=yh (Id y.o (by rw [x.o]) (λh=>O (A.o.trans h)));go_wp2;generalize W.setCell ⟨w5.heap.size,7,none⟩ (.int .i64 (Q:Int))=w8 at*;clear c7 c7' f7 O d6 d6';go_loopw [20] (λv wr=>∃(rs:List (List Int)) (hd:Nat),cH wr w5.heap.size r ⟨a,b,wrap64 (S.life+1),false,E,T,hd,Q⟩/\dQ wr G.heap.size v rs (λ_=>False)/\dC (Rp (dW S a) b) E T rs hd/\bW G wr) (λ_ wr=>T+b-(intOf ((wr.cell? (aD w5.heap.size 6)).getD (.bool false))).toNat);case atStart=>exact⟨[],T,HL8.o,dQ.nil _ _ _,dC.nil _ _ _,VX.o⟩
        case round=>
         obtain⟨rs,hd,BA,Vi,Ag,dO⟩:=hrel;have hdb:=dC.round (by omega) (tM (dW S a) b) Ag;have rE:=dC.length Ag;have c6:wr.cell? (aD w5.heap.size 6)=some (iV (hd:Int)):=BA.c6;obtain⟨ic,Mi,Wq,J,l9,Aa,Y⟩:=nW (Wp E hd (sj.o.later dO) BA Fi.o.take (by show a+2+b<=s;omega) (by show 1<=b;omega) (by show S.puts.length+1<=_;omega) (by omega) (by omega)) (yh BA) (yh Vi) (yh Ag) (yh dO) dO.size (yh c6);clear BA Vi Ag dO;go_wp2_with fail;refine ic.mono ?_;rintro e w9 ⟨v9,n9,rfl,hao,A3⟩;have hz9:=A3.size;rcases hao with ⟨c,d,Fj,rfl,az⟩|⟨rfl,rfl,iZ⟩
         .have A2:=Fj.1;have arj:=Fj.2.1;have d9:((c:Int) == 0)=false:=(by rw [eG];omega);obtain⟨g,cg,rfl,hg,aY⟩:=az.U1 Fj.some;obtain⟨v',SV,bC,Dr,aeL,M⟩:=OJ (Wq.o.cells (el A3)) aY (by omega) (by omega) (by omega);have SW:cH SV w5.heap.size r ⟨a,b,wrap64 (S.life+1),false,E,T,hd,Q⟩:=M _ _ (Mi.o.later A3);have c6':SV.cell? (aD w5.heap.size 6)=some (iV (hd:Int)):=SW.c6;have f6:=SW.fz 6;have X1:=J.o.snoc (show Rec (Rp (dW S a) b) E hd c d from Fj);have DM:=dC.round (by omega) (tM (dW S a) b) X1;have ro:=yh bC;have BE:cH (SV.setCell ⟨w5.heap.size,6,none⟩ (.int .i64 ((hd:Int)+(c:Int)))) w5.heap.size r ⟨a,b,wrap64 (S.life+1),false,E,T,hd+c,Q⟩:=SW.aao ((hd:Int)+(c:Int)) (hd+c) (by omega);have HZ:=yh (aF BE (aF (Dr.marked SW 6 (iV ((hd:Int)+(c:Int)))) (aF X1 ((l9.o.trans ((A3.mono Aa).trans aeL)).setCell (p:=⟨w5.heap.size,6,none⟩) qE (iV ((hd:Int)+(c:Int)))))));have aj6:Yh ((SV.setCell ⟨w5.heap.size,6,none⟩ (.int .i64 ((hd:Int)+(c:Int)))).cell? (aD w5.heap.size 6)=some (iV ((hd+c:Nat):Int))):=BE.c6;clear ic A3 bC Dr aeL M SW BE X1 aY az Fj c6;go_wp2_with (at_builtin;refine bj rfl _ _ 79 rfl u20 (.slice (some (aD w9.heap.size 0)) 1 1) _ rfl rfl ro.o ?_);go_wp2;go_roundw;case rel=>exact⟨rs ++ [d],hd+c,HZ.o⟩
          case measure=>
           rw [Y.o,aj6.o];simp [intOf];omega
         .have jL:=Gu (sj.o.later (l9.o.trans (A3.mono Aa))) (by show S.puts.length+1<=_;omega);have aj7:=yh (Wq.o.cells (el A3));have HL9:=yh (Mi.o.later A3);have H:Yh (bW G w9):=l9.o.trans (A3.mono Aa);have sO:=yh iZ;clear ic A3 iZ c6;by_cases C:(S.take.fl s).1=0
          .rw [C] at jL;go_wp2_with fail;refine fk jL λSV SX Ey=>?_;have XK:Yh (aa F w SV):=gQ.o.trans ((aa.ah F H.o).trans Ey (λ_ h=> .inl h)) (λ_ h=> .inl h);have u:=yh SX;have m:=ib.o;have HT:Yh (ST SV w.heap.size w5.heap.size r (LG.new S a b) S u20 rs hd):=by
            refine⟨?_,by show dC (Rp (dW S a) b) (bV S a).1 (bV S a).2.1 rs hd;rw [x.o];exact J.o,by show∀c d,¬Rec (Rp (dW S a) b) (bV S a).1 hd c d;rw [x.o];exact sO.o,?_⟩
            .obtain⟨vs,l,R⟩:=aj7.o.low ec (λ_ h=>h);refine⟨vs,em l (λg hg=>Ey.block g (SU l hg) (λK=>by have:=jn l hg;have:=m _ K;omega)),λi hi=>?_⟩;obtain⟨g,c,e,hr,hb,hx⟩:=R i hi;exact⟨g,c,e,hr.agree (Ey.block g hr.lt (λK=>by have:=m _ K;omega)),hb,hx⟩
            .have e1:({LG.new S a b with ep:=(bV S a).1,tail:=(bV S a).2.1,head:=hd,top:=ia S a b}:LG)=⟨a,b,wrap64 (S.life+1),false,E,T,hd,Q⟩:=(by rw [x.o,A.o];rfl);show cH SV w5.heap.size r ({LG.new S a b with ep:=(bV S a).1,tail:=(bV S a).2.1,head:=hd,top:=ia S a b}:LG);rw [e1];exact HL9.o.au Ey (λK=>by have:=m _ K;omega)
           have Z:=yh C;clear jL SX Ey C m;go_wp2;go_ret3;exact Ie j.o Z.o u.o XK.o (by omega) HT.o
          .have L:=lf C;have d7:((S.take.fl s).1 == 0)=false:=(by rw [eG];exact C);have d7':((S.take.fl s).1 != 0)=true:=(by rw [fT];exact C);have HP3:Yh (bu S s (a:Int) (b:Int)=(3,(S.take.fl s).2)):=by
            rw [j.o];exact Prod.ext L.2.2 rfl
           obtain⟨z,hz⟩:=bQ ((S.take.fl s).1);rw [<-hz] at jL d7 d7';clear C L hz;go_wp2_with fail;refine fk jL λSV SX Ey=>?_;have XK:Yh (aa F w SV):=gQ.o.trans ((aa.ah F H.o).trans Ey (λ_ h=> .inl h)) (λ_ h=> .inl h);have u:=yh SX;clear jL SX Ey;go_wp2;go_ret3;exact ix HP3.o (by omega) u.o XK.o
  .have j:=yh (i7 (b:=b) y.o (by rw [K1.o,aE (.inl k1)]));have d1':((ER:Int) != 0)=true:=(by rw [fT];omega);clear K1;go_wp2;go_ret3;exact ix j.o (by omega) k.o rS.o
 .have d:(cq S s f n == 0)=false:=by rw [eG];exact q
  have d':(cq S s f n != 0)=true:=by rw [fT];exact q
  refine bE l λw1 bN=>?_;have j9:=bN.symm;clear bN;subst j9;clear l;go_wp2;go_ret3;exact ix (yh (BM q)).out q HD.o (aa.refl _ _)
end
end
section
def eD (w:World) (F:Nat->Prop) (r s:Nat) (S:DS) (e:Ending) (w':World):Prop:=∃x S',jP S s x S'/\aa F w w'/\((x≠0/\e= .returned (.tuple #[.pointer none,iV x])/\aB w' (more F w w') r s S')\/(x=0/\∃(k kl:Nat) (L:LG) (F' X:Nat->Prop),sR S s L/\e= .returned (.tuple #[pQ k,iV 0])/\(∀j,F' j->more F w w' j)/\(∀j,X j->w.heap.size<=j)/\aB w' F' r s S'/\iz w' F' X r s S' k kl ⟨cz (S.now 0),L, [],false⟩ (.slice none 0 0) [] 0 (.pointer none)))
section
variable {w w':World} {F:Nat->Prop} {r s:Nat} {S:DS}
theorem If (hd:aB w F r s S) (b:S.fuse=0):
  Calls prog 59 #[pQ r] w λe w'=>eD w F r s S e w':=by
 have a:=j3 hd;rw [show (S.fuse == 0)=true by simp [b]] at a;go_in;go_wp2_with fail;refine bE a λw1 bN=>?_;subst bN;go_wp2;go_ret2;exact⟨3,S, .inl ⟨.inl ⟨b,rfl,rfl⟩,by decide,rfl⟩,aa.refl _ _, .inl ⟨by decide,rfl,hd.mono (λ_ h=> .inl h) (λk c=>c.elim (λh=>hd.lt k h) (λh=>h.2))⟩⟩
theorem eD.bad (hd:aB w F r s S) (c:S.fuse≠0) (iZ:¬lT (S.now 0) s) (a:bW w w'):eD w F r s S (.returned (.tuple #[.pointer none,iV 6])) w':=by
 have h:=hd.later a;exact⟨6,S, .inl ⟨.inr (.inr ⟨c,iZ,rfl,rfl⟩),by decide,rfl⟩,aa.ah _ a, .inl ⟨by decide,rfl,h.mono (λ_ h=> .inl h) (λk d=>d.elim (λb=>h.lt k b) (λh=>h.2))⟩⟩
theorem Mx {S:DS} {s:Nat}:(L.start S s).2.2.f+2+(L.start S s).2.2.n=L.f+2+L.n:=by
 unfold LG.start;split
 .rfl
 .split
  .rfl
  .split <;> rfl
theorem eD.fail (bm:∀j,F j->j<w.heap.size) (l6:jP S s x S') (d:x≠0) (hd:aB w' F7 r s S') (b:∀j,F7 j->more F w w' j) (a:aa F w w'):eD w F r s S (.returned (.tuple #[.pointer none,iV x])) w':=
   ⟨x,S',l6,a, .inl ⟨d,rfl,hd.mono b (λj c=>c.elim (λh=>iP (bm j h) a.size) (λh=>h.2))⟩⟩
theorem eD.done {l a:World} {e:Nat} {y:LY} (q:y=cz (S.now 0)) (o:∀j,F j->j<w.heap.size) (l6:jP S s 0 S') (mL:sR S s L) (m:∀j,F7 j->more F w l j) (gy:aa F w l) (mb:w.heap.size<=e) (OL:¬F7 e) (aro:e<l.heap.size) (nU:aB a (more F7 l a) r s S') (CW:cH a e r L) (jv:aa (λj=>F7 j\/j=e) l a) (x8:L.Ok s) (vm:L.begun=true) (XB:y.home+y.blocks<=s) (BE:L.f+2+L.n<=y.home):
  eD w F r s S (.returned (.tuple #[pQ a.heap.size,iV 0])) (a.alloc (.cells (rsC r e y (.slice none 0 0) 0 (.pointer none)) 128)):=by
 have VY:=jv.size;have oZ:bW a (a.alloc (.cells (rsC r e y (.slice none 0 0) 0 (.pointer none)) 128)):=(bi a.heap.size a).alloc (bP _) _;have ef:(a.alloc (.cells (rsC r e y (.slice none 0 0) 0 (.pointer none)) 128)).heap.size=a.heap.size+1:=by simp
 refine⟨0,S',l6,?_, .inr ⟨rfl,a.heap.size,e,L,more F7 l a,(λj=>j=a.heap.size\/j=e),mL,rfl,λj d=>?_,λj d=>?_,nU.later oZ,?_⟩⟩
 .refine(gy.trans jv (λj d=>?_)).trans (aa.ah (λ_=>False) oZ) (λ_ h=>h.elim);rcases d with d|d
  .exact(m j d).imp id (λh=>h.1)
  .exact .inr (by omega)
 .rcases d with d|d
  .exact(m j d).imp id (λh=>⟨h.1,by omega⟩)
  .exact .inr ⟨by omega,by omega⟩
 .rcases d with d|d <;> omega
 .subst q;refine⟨heap_alloc_new _ _,CW.later oZ,Pl.nil _ _, .inl rfl, .inr rfl,λg i k=>?_,λg i=>?_,x8,vm,XB,BE,rfl,dU _,λx k=>(by cases k),λ_ b _ _ c p=>(by cases p)⟩
  .rcases i with i|i
   .have:=nU.lt g k;omega
   .rcases k with k|k
    .exact OL (i▸k)
    .omega
  .rcases i with i|i <;> omega
theorem Ig (hd:aB w F r s S) (hf:S.fuse≠0) (cZ:S.fC) (aT:S.puts.length+6000<=4000000000000):
  Calls prog 59 #[pQ r] w λe w'=>eD w F r s S e w':=by
 have h1:=j3 hd;rw [show (S.fuse == 0)=false by simp [hf]] at h1;have xZ:=hd.ok.lo;have km:=hd.ok.hi;have h2:=jF hd 0 (by omega) (by omega);have hl:=br hd.ok 0 (by omega);have hbn:=cZ.now 0;obtain⟨HSi,I,T,HBn⟩:=Bg (C0 hbn hl) hd hf hbn;have Fi:=yh cZ;clear hd hf;go_in;go_wp2_with fail;refine bE h1 λw1 bN=>?_;subst bN;clear h1;go_wp2_with fail;refine h2.mono ?_;rintro e w2 ⟨g,c,rfl,hFg,hr,dw⟩;subst dw;have h3:=BK g 0 c (S.now 0) w2 hl HBn.o (λi O=>by have:=hr.src.2.2 _ rfl i (by rw [hl];exact O);rwa [aK] at this);clear h2 hr;go_wp2_with fail;refine h3.mono ?_;rintro e w3 ⟨v,x,rfl,l6,bz⟩;clear h3
 rename World=>W0
 rcases l6 with ⟨h0,rfl,rfl⟩|⟨h0,rfl,rfl⟩
 .have Ih:oI (S.now 0):=HSi.o.2 h0;have uv:=h0.1;clear h0;obtain⟨W,M⟩:∃W,W=W0.alloc (.cells #[.int .i64 ((u32 (S.now 0) 8:Nat):Int), .int .i64 ((u32 (S.now 0) 12:Nat):Int), .int .i64 ((u32 (S.now 0) 16:Nat):Int)] 40):=⟨_,rfl⟩;have lj:W.heap[W0.heap.size]? =some (.cells #[.int .i64 ((u32 (S.now 0) 8:Nat):Int), .int .i64 ((u32 (S.now 0) 12:Nat):Int), .int .i64 ((u32 (S.now 0) 16:Nat):Int)] 40 (0,0)):=by rw [M];exact heap_alloc_new _ _
  have Ur:bW w2 W:=by rw [M];exact bz.alloc bz.size _
  have arp:=bz.size;have Hv:W.heap.size=W0.heap.size+1:=by rw [M,World.size_alloc]
  go_wp2_with fail;rw [<-M];clear M bz;have hdW:=I.o.later Ur;have c0:=aL lj;have nJ:=λk=>mv (hdW.later (below_drewN (bi _ _) k));have HW:=yh (aF hdW (aF Ur lj));clear hdW Ur lj;by_cases o7:u32 (S.now 0) 8=s
  .have Wl:(((u32 (S.now 0) 8:Nat):Int) != ((s:Nat):Int))=false:=(by rw [o7];simp);have K2:Yh (lT (S.now 0) s):=yh ⟨Ih,o7⟩;have Z7:=yh o7;clear o7;go_quiet (first|(go_at_call 52;refine Calls.quiet_of_same (nJ _)));rename_i nq _;have E:bW W (W.drewN nq):=below_drewN (bi _ _) nq;have eV:=yh (aF (HW.o.1.later E) (aF (HW.o.2.1.trans (E.mono HW.o.2.1.size)) ((E.block W0.heap.size (by omega)).trans HW.o.2.2)));have arq:(W.drewN nq).heap.size=W0.heap.size+1:=Hv;clear HW c0 nJ E Hv;generalize W.drewN nq=V at*;have x0:=aL eV.o.2.2;have x1:V.cell? (aD W0.heap.size 1)=some (iV ((u32 (S.now 0) 12:Nat):Int)):=bD eV.o.2.2;have x2:=bH eV.o.2.2;have h3g:((u32 (S.now 0) 12:Nat):Int)+((u32 (S.now 0) 16:Nat):Int) / 4+6<=(s:Int):=by
    have:=uv;unfold vq at this;rw [Z7.o] at this;omega
   have SY:Calls prog 51 #[.agg #[iV ((u32 (S.now 0) 8:Nat):Int),iV ((u32 (S.now 0) 12:Nat):Int),iV ((u32 (S.now 0) 16:Nat):Int)]] V λe w'=>e= .returned (.tuple #[Pr (cz (S.now 0)),iV 0])/\bW V w':=by
    refine(vz ((u32 (S.now 0) 8:Nat):Int) ((u32 (S.now 0) 12:Nat):Int) ((u32 (S.now 0) 16:Nat):Int) V).mono ?_;rintro e d ⟨v,x,rfl,hpo,My⟩;rcases hpo with ⟨_,rfl,rfl⟩|⟨h9,_⟩
    .refine⟨?_,My⟩;rw [show ((u32 (S.now 0) 8:Nat):Int)=(s:Int) by rw [Z7.o]];exact Sx (S.now 0) Z7.o h3g
    .exact absurd uv h9
   have G:=kh K2.o;have hyl:((u32 (S.now 0) 12:Nat):Int)=((cz (S.now 0)).log:Int):=rfl;obtain⟨y,hy⟩:=bQ (cz (S.now 0));rw [<-hy] at SY G hyl;obtain⟨a,HYl⟩:=bL hy hyl;clear uv Ih h3g hyl hy;go_wp2_with fail;refine bE SY λd My=>?_;clear SY;have X3:=My.size;obtain⟨U,hU⟩:∃U,U=d.alloc (.cells #[.int .i64 (y.log:Int), .int .i64 (y.home:Int), .int .i64 (y.blocks:Int), .int .i64 (y.nodes:Int), .int .i64 (y.data:Int)] 75):=⟨_,rfl⟩;have hux:U.heap[d.heap.size]? =some (.cells #[.int .i64 (y.log:Int), .int .i64 (y.home:Int), .int .i64 (y.blocks:Int), .int .i64 (y.nodes:Int), .int .i64 (y.data:Int)] 75 (0,0)):=(by rw [hU];exact heap_alloc_new _ _);have Us:bW w2 U:=(by rw [hU];exact(eV.o.2.1.trans (My.mono eV.o.2.1.size)).alloc (by omega) _);have hzU:U.heap.size=d.heap.size+1:=(by rw [hU,World.size_alloc]);have x1U:U.cell? (aD W0.heap.size 1)=some (iV (y.log:Int)):=by
    have e1:bW V U:=(by rw [hU];exact My.alloc X3 _);rw [<-HYl.o];exact iu e1 (by omega) x1
   have hdU:=I.o.later Us;have l7:=OK hdU Fi.o 1 (y.log:Int) (by omega);have HU:=yh (aF hdU (aF Us hux))
   dsimp only [Pr]
   clear x0 x1 x2 My hdU Us hux
   go_upto_region 7 with fail
   rw [<-hU];clear hU;go_wp2_with fail;refine l7.mono ?_;rintro e w4 ⟨uw,N,dV⟩;clear l7 x1U;have vS:=dV.size;have Mz:=λj b=>I.o.lt j b;have BN:=(aa.ah F HU.o.2.1).trans dV (λ_ h=> .inl h);have aaq:=(dV.block d.heap.size (by omega) (λhF=>by have:=Mz _ hF;omega)).trans HU.o.2.2;unfold qY at uw;by_cases q:(bu S s 1 (y.log:Int)).1=0
   .rw [aA (λh=>h q)] at uw;obtain⟨kl,v,rs,hd,rfl,mb,ht⟩:=uw;have Fl:jH S 1 y.log rs hd:=⟨ht.t,ht.x⟩;have aeN:cH w4 kl r (eZ S 1 y.log hd):=ht.p;obtain⟨Wr,Ez,Ii,Ij⟩:=lV (f:=1) q;obtain⟨uS,CA,_,_⟩:=Fl.small Fi.o (by omega);have xn:=xQ (s:=s) Fl Fi.o Ez Ii (by omega) (by omega) (by omega);obtain⟨ta,tn,tc,hv,X1,uT⟩:=ht.rc.aeF.shape;subst hv X1;obtain⟨O4,HL4,HD4,Sd,HUx,HCl,Wg,J,D,K⟩:=abX Fl aeN N BN aaq uT CA (aF Ez (aF Ii Ij)) xn q;have dq:((bu S s 1 (y.log:Int)).1 != 0)=false:=(by rw [q];rfl);have hyb:=G.2.2.2.2;clear ht Fl aeN N dV BN aaq uT CA Wr Ez Ii Ij xn eV q;go_wp2;go_loopw [11,12] (λv i wr=>∃(j:Nat) (ps:List (Nat×List Int)),j<=rs.length/\i=iV (j:Int)/\rdAll y.blocks [] rs=rdAll y.blocks (CM.bX [] ps) (rs.drop j)/\(∀x∈ps,x.1<y.blocks)/\ps.length<=16*j/\Pn wr (λj=>w4.heap.size<=j) w4.heap.size v ps/\bW w4 wr) (λ_ i _=>rs.length-(intOf i).toNat);case atStart=>exact⟨0, [],dU _,rfl,rfl,λx z=>(by cases z),dU _,Pn.nil _ _ _,bi _ _⟩
    case round=>
     obtain⟨j,ps,b,rfl,bR,O9,pf,nr,dO⟩:=hrel;obtain⟨Aa,Jb,l9,HPk⟩:=cM dO.size (yh nr) (yh dO) (yh O9);by_cases qj:j<rs.length
     .have ZO:(j:Int)<(rs.length:Int):=(by omega);obtain⟨tb,tg,Pz,rfl,p1,aY⟩:=HCl.o j qj;have aeO:∀{g o:Nat} {u:Value},w4.cell? (aD g o)=some u->wr.cell? (aD g o)=some u:=λhc=>di (aa.ah (λ_=>False) dO) (λh=>h) hc;have Q:=aeO p1;have P:wr.cell? (aD d.heap.size 2)=some (iV (y.blocks:Int)):=aeO (bH HUx.o);have Ik:=aY.agree (dO.block tg aY.lt);have vi:=List.drop_eq_getElem_cons qj;rw [vi,sS] at bR;have Fj:=H9 (some (aD tg 0)) (rs[j]).length Pz rs[j] wr.drew (Ik.src.later (ai (bi _ _))) (Wg.o _ (List.getElem_mem qj)).1 (Wg.o _ (List.getElem_mem qj)).2 (by have:=Ik.le;simpa [bs] using this) (by have:=Ik.max;unfold maxLen at this;omega) y.blocks hyb;cases JY:rdRec y.blocks rs[j] with
      |none=>
       rw [JY] at bR Fj;have SZ:Calls prog 118 #[.slice (some (aD tg 0)) (rs[j]).length Pz,iV (y.blocks:Int)] wr.drew λe w'=>e= .returned (.tuple #[.slice none 0 0, .bool false])/\bW wr w':=Fj.mono (by
        rintro e w' ⟨ho,hb⟩;rcases ho with ⟨_,rfl⟩|⟨cs,v',h0,_⟩
        .exact⟨rfl,(ai (bi _ _)).trans hb⟩
        .cases h0)
       obtain⟨Wq,OF⟩:=bL SZ bR;clear Fj SZ nr dO O9 p1 aY Ik bR;go_wp2_with fail;go_region_held3 (λw'=>w'.cell? (aD tb j)=some (.slice (some (aD tg 0)) (rs[j]).length Pz)/\w'.cell? (aD d.heap.size 2)=some (iV (y.blocks:Int)))
        (first|exact⟨Q,P⟩|exact Vm)
          ((go_at_call 118;refine Wq.o.mono ?_;rintro e w5 ⟨rfl,ff⟩;have Vm:w5.cell? (aD tb j)=some (.slice (some (aD tg 0)) (rs[j]).length Pz)/\w5.cell? (aD d.heap.size 2)=some (iV (y.blocks:Int)):=⟨di (aa.ah (λ_=>False) ff) (λh=>h) Q,di (aa.ah (λ_=>False) ff) (λh=>h) P⟩))
       have jd:=yh (l9.o.trans (ff.mono Aa));clear Vm ff;go_wp2;go_ret2;have A3:=jd.o;exact eD.fail (F7:=F) Mz (.inr ⟨K2.o,T.o, .inr ⟨by rw [<-a.o];exact K.o,rs,hd,by rw [<-a.o];exact O4.o, .inl ⟨by rw [<-a.o];exact OF.o,rfl,by rw [<-a.o]⟩⟩⟩) (by decide) (HD4.o.later A3) (λ_ h=> .inl h) (Sd.o.trans (aa.ah (λ_=>False) A3) (λ_ h=>h.elim))
      |some cs=>
       rw [JY] at bR Fj;have Fr:=OD JY;have ZF:=sN JY;have SZ:Calls prog 118 #[.slice (some (aD tg 0)) (rs[j]).length Pz,iV (y.blocks:Int)] wr.drew λe w'=>∃v',e= .returned (.tuple #[v', .bool true])/\Pn w' (λj=>wr.heap.size<=j) wr.heap.size v' cs/\bW wr w':=Fj.mono (by
        rintro e w' ⟨ho,hb⟩;rcases ho with ⟨h0,_⟩|⟨cs',v',h0,rfl,hp⟩
        .cases h0
        .cases h0;exact⟨v',rfl,hp,(ai (bi _ _)).trans hb⟩)
       obtain⟨Wq,OF,HCk⟩:=jS SZ bR ZF;clear Fj SZ nr dO O9 p1 aY Ik bR ZF JY;go_wp2_with fail;go_region_held3 (λw'=>w'.cell? (aD tb j)=some (.slice (some (aD tg 0)) (rs[j]).length Pz)/\w'.cell? (aD d.heap.size 2)=some (iV (y.blocks:Int)))
        (first|exact⟨Q,P⟩|exact Vm)
          ((go_at_call 118;refine Wq.o.mono ?_;rintro e w5 ⟨v',rfl,Sk,ff⟩;have Vm:w5.cell? (aD tb j)=some (.slice (some (aD tg 0)) (rs[j]).length Pz)/\w5.cell? (aD d.heap.size 2)=some (iV (y.blocks:Int)):=⟨di (aa.ah (λ_=>False) ff) (λh=>h) Q,di (aa.ah (λ_=>False) ff) (λh=>h) P⟩))
       have qE:=ff.size;obtain⟨g2,bZ,R,bC,aeP,ji⟩:=(Jb.o.later ff).cat Sk (λi (O:wr.heap.size<=i)=>(jQ Aa O:w4.heap.size<=i)) (by omega) (by omega) (by omega);have ny:=(l9.o.trans (ff.mono Aa)).trans (ji.below (λi O=>Jb.o.lo i O) (by omega));obtain⟨l,ro⟩:=bL (aF aeP ny) bC;clear Vm ff Sk bC aeP ji ny;go_wp2_with (at_builtin;refine bj rfl _ _ 126 rfl u11 v' _ rfl rfl ro.o ?_);go_roundw;case rel=>exact⟨j+1,ps ++ cs,by omega,by go_num,by rw [pR];exact OF.o,λx z=>(List.mem_append.1 z).elim (HPk.o x) (HCk.o x),by rw [dT];omega,l.o⟩
       case measure=>simp [intOf];omega
     .have ZO:¬(j:Int)<(rs.length:Int):=(by omega);obtain rfl:j=rs.length:=(by omega);rw [List.drop_length] at bR;have uF:rdAll y.blocks [] rs=some (CM.bX [] ps):=bR;obtain⟨A3,j7,BA,Ws⟩:=cM dO (HD4.o.later dO) (HL4.o.later dO) (Sd.o.trans (aa.ah (λ_=>False) dO) (λ_ h=>h.elim));have Il:=(dO.block d.heap.size (by omega)).trans HUx.o;have art:=HL4.o.lt;have OL:¬F kl:=λhF=>by have:=Mz _ hF;omega
      have aat:(bu S s 1 (y.log:Int)).2.puts= []:=by
       have:=K.o;rw [show bu S s 1 (y.log:Int)=S.take.fl s from J.o.2.2] at this⊢;exact jf this
      have aau:(bu S s 1 (y.log:Int)).2.fC:=by
       rw [show bu S s 1 (y.log:Int)=S.take.fl s from J.o.2.2];exact Fi.o.take.fl s
      have aav:∀i,i<s->(bu S s 1 (y.log:Int)).2.now i=S.now i:=λi O=>by
       rw [show bu S s 1 (y.log:Int)=S.take.fl s from J.o.2.2];exact eU (S:=S.take) ⟨I.o.ok.len,I.o.ok.lo,I.o.ok.hi,I.o.ok.puts,I.o.ok.fuse⟩ O
      clear nr dO O9 bR;have aeQ:w2.heap.size<=kl:=(by omega);have aeR:(eZ S 1 y.log hd).f+2+(eZ S 1 y.log hd).n<=y.home:=(by show 1+2+y.log<=y.home;rw [a.o];exact Nat.le_of_eq (by show 1+2+u32 (S.now 0) 12=3+u32 (S.now 0) 12;omega));have Jv:S.num 1<((eZ S 1 y.log hd).top+1)*4294967296:=Et J.o.1;obtain⟨m,X5⟩:∃m,m=(bu S s 1 (y.log:Int)).2:=⟨_,rfl⟩;rw [<-X5] at j7 aat aau aav;have oN:=yh X5;have S9:m.num 1<((eZ S 1 y.log hd).top+1)*4294967296:=(by rw [vw (S:=S) (S':=m) (aav 1 (by omega)) (aav 2 (by omega))];exact Jv);have hp0:m.puts.length=0:=(by rw [aat];rfl);have Ed:∀q∈CM.bX [] ps,y.home+q.1<s/\q.2.length=512:=λq E=>⟨by have:=HPk.o q (eO E);have:=G.1;omega,(Jb.o.pl.len q (eO E)).1⟩;have Un:=λq E=>(Jb.o.pl.len q (eO E)).2;have hyh:3<=y.home:=(by rw [a.o];show 3<=3+u32 (S.now 0) 12;omega);clear X5 aat HCl;by_cases q0:rs= []
      .have dl:¬(0:Int)<(rs.length:Int):=(by rw [q0];decide);have I5:Yh (ee m s y (CM.bX [] ps) rs=(0,m)):=yh (by unfold ee;rw [aE q0]);clear q0;have bt:=Ah j7 BA D.o OL aau (by omega) (λ_ _=>S9);have rN:=sQ (S:=m) D.o;have oJ:=Ar (L:=eZ S 1 y.log hd) (S:=m) (s:=s) (j7).ok rfl (by show 1+1<s;omega) S9 D.o.top;have Im:Yh (jP S s ((eZ S 1 y.log hd).start m s).1 ((eZ S 1 y.log hd).start m s).2.1):=yh (.inr ⟨K2.o,T.o, .inr ⟨by rw [<-a.o];exact K.o,rs,hd,by rw [<-a.o];exact O4.o, .inr ⟨CM.bX [] ps,by rw [<-a.o];exact uF, .inr ⟨by rw [<-a.o,<-oN.o,I5.o],by rw [<-a.o,<-oN.o,I5.o],by rw [<-a.o,<-oN.o,I5.o]⟩⟩⟩⟩);have Ta:Yh (sR S s ((eZ S 1 y.log hd).start m s).2.2):=yh ⟨rs,hd,CM.bX [] ps,by rw [<-a.o];exact O4.o,by rw [<-a.o];exact uF,by rw [<-a.o,<-oN.o,I5.o]⟩;have H:=yh rN;by_cases A:((eZ S 1 y.log hd).start m s).1=0
       .have ds:(((eZ S 1 y.log hd).start m s).1 != 0)=false:=(by rw [A];rfl);have Wt:=yh A;clear A oJ rN;go_wp2_with fail;refine oX bt λC nU CW jv=>?_;have VY:=jv.size;have vA:=(jv.block d.heap.size (by omega) (λz=>by rcases z with z|z;(have:=Mz _ z;omega);omega)).trans Il;have l0:C.cell? (aD d.heap.size 0)=some (iV (y.log:Int)):=aL vA;have l1:C.cell? (aD d.heap.size 1)=some (iV (y.home:Int)):=bD vA;have l2:C.cell? (aD d.heap.size 2)=some (iV (y.blocks:Int)):=bH vA;have l3:C.cell? (aD d.heap.size 3)=some (iV (y.nodes:Int)):=fI vA;have l4:C.cell? (aD d.heap.size 4)=some (iV (y.data:Int)):=gz vA;have l:=yh (aF nU (aF CW jv));clear bt nU CW jv vA;go_wp2;go_ret2;have l6:=Im.o;rw [Wt.o] at l6;exact eD.done a.o Mz l6 Ta.o (λ_ h=> .inl h) Ws aeQ OL (by omega) l.o.1 l.o.2.1 l.o.2.2 (H.o Wt.o).1 (H.o Wt.o).2 G.1 (by rw [Mx];exact aeR)
       .have ds:(((eZ S 1 y.log hd).start m s).1 != 0)=true:=(by rw [fT];exact A);obtain⟨Wt,h33⟩:=bL A (oJ.resolve_left A);clear A oJ rN;go_wp2_with fail;refine oX bt λC nU CW jv=>?_;have VY:=jv.size;have l:=yh (aF nU jv);clear bt nU CW jv;go_wp2;go_ret2;have l6:=Im.o;rw [h33.out] at l6;exact eD.fail (F7:=more F wr C) Mz l6 (by decide) l.o.1 (λj b=>by rcases b with b|b;exact .inl b;exact .inr ⟨by omega,b.2⟩) (Ws.trans l.o.2 (λj b=>by rcases b with b|b;exact .inl b;exact .inr (by omega)))
      .have dl:(0:Int)<(rs.length:Int):=(by have:=List.length_pos_iff.2 q0;omega);have Wu:=Ad (y:=y) j7 Jb.o.pl.pv (λg hg hF=>by have:=Mz _ hF;rcases hg with hg|hg;omega;have:=Jb.o.lo g hg;omega) G.1 HPk.o (by omega) (by omega);obtain⟨b1,b2,b3,b4,b5⟩:=ev (h0:=y.home) (ms:=CM.bX [] ps) j7.ok Ed;have hYp:=eA m s y.home (CM.bX [] ps);have hYb:=j6 aau s y.home Un;have hol:(CM.bX [] ps).length<=2048:=by
        rcases CM.length_le (n:=2048) (mB ps) (λq E=>by have:=(Ed q E).1;omega) 0 (λ_ _=>dU _) with h1|h1
        .omega
        .rw [h1];simp
       have kP:ee m s y (CM.bX [] ps) rs=if (sbring m s y.home (CM.bX [] ps)).1≠0 then sbring m s y.home (CM.bX [] ps) else (sbring m s y.home (CM.bX [] ps)).2.fl s:=(by unfold ee;rw [aA q0]);have l0:wr.cell? (aD d.heap.size 0)=some (iV (y.log:Int)):=aL Il;have l1:wr.cell? (aD d.heap.size 1)=some (iV (y.home:Int)):=bD Il;have l2:wr.cell? (aD d.heap.size 2)=some (iV (y.blocks:Int)):=bH Il;have l3:wr.cell? (aD d.heap.size 3)=some (iV (y.nodes:Int)):=fI Il;have l4:wr.cell? (aD d.heap.size 4)=some (iV (y.data:Int)):=gz Il;generalize hY9:sbring m s y.home (CM.bX [] ps)=Y at*;clear hY9 q0;by_cases X:Y.1=0
       .have dy:(Y.1 == 0)=true:=(by rw [X];rfl);rw [aA (λh=>h X)] at kP;clear X;go_wp2_with fail;refine fk Wu λR po ji=>?_;have jL:=fw po (by omega);have Mf:=ji.size;have ake:=(ji.block d.heap.size (by omega) (λz=>by have:=Mz _ z;omega)).trans Il;have Ms:=BA.au ji OL;have Ax:=Ws.trans ji (λ_ h=> .inl h);have Wv:=λi (O:i<s)=>eU b3 O;have hZb:=hYb.fl s;have hZp:=lY Y.2 s;have HF6:=yh (λ(j:Nat) (b:more F wr R j)=>(b.imp id (λh=>⟨by omega,h.2⟩):more F w2 R j));generalize hZ9:Y.2.fl s=Z at*;have HZ9:=yh hZ9;clear Wu po ji hZ9 l0 l1 l2 l3 l4;by_cases qz:Z.1=0
        .have dz:(Z.1 == 0)=true:=(by rw [qz];rfl);have I5:Yh (ee m s y (CM.bX [] ps) rs=(0,Z.2)):=yh (by rw [kP];exact Prod.ext qz rfl);clear qz kP;go_wp2_with fail;refine fk jL λw7 nF gy=>?_;have Z2:=gy.size;have Tb:¬more F wr R kl:=λh=>h.elim OL (λh=>by omega);have CV:=Ms.au gy Tb;have akf:=(gy.block d.heap.size (by omega) (λz=>by rcases z with z|z;(have:=Mz _ z;omega);omega)).trans ake;have BO:=Ax.trans gy (λj b=>b.imp id (λh=>by omega));have HF7:=yh (λ(j:Nat) (b:more F wr R j)=>((HF6.o j b).imp id (λh=>⟨h.1,by omega⟩):more F w2 w7 j));have X7:Z.2.num 1<((eZ S 1 y.log hd).top+1)*4294967296:=by
          rw [vw (S:=m) (S':=Z.2) ((Wv 1 (by omega)).trans (b5 1 (λq E e=>by omega))) ((Wv 2 (by omega)).trans (b5 2 (λq E e=>by omega)))];exact S9
         clear jL gy b1 b2 b3 b4 b5 Ed Un Wv j7 BA Il;have bt:=Ah nF CV D.o Tb hZb (by omega) (λ_ _=>X7);have rN:=sQ (S:=Z.2) D.o;have oJ:=Ar (L:=eZ S 1 y.log hd) (S:=Z.2) (s:=s) (nF).ok rfl (by show 1+1<s;omega) X7 D.o.top;have Im:Yh (jP S s ((eZ S 1 y.log hd).start Z.2 s).1 ((eZ S 1 y.log hd).start Z.2 s).2.1):=yh (.inr ⟨K2.o,T.o, .inr ⟨by rw [<-a.o];exact K.o,rs,hd,by rw [<-a.o];exact O4.o, .inr ⟨CM.bX [] ps,by rw [<-a.o];exact uF, .inr ⟨by rw [<-a.o,<-oN.o,I5.o],by rw [<-a.o,<-oN.o,I5.o],by rw [<-a.o,<-oN.o,I5.o]⟩⟩⟩⟩);have Ta:Yh (sR S s ((eZ S 1 y.log hd).start Z.2 s).2.2):=yh ⟨rs,hd,CM.bX [] ps,by rw [<-a.o];exact O4.o,by rw [<-a.o];exact uF,by rw [<-a.o,<-oN.o,I5.o]⟩;have H:=yh rN;by_cases A:((eZ S 1 y.log hd).start Z.2 s).1=0
         .have ds:(((eZ S 1 y.log hd).start Z.2 s).1 != 0)=false:=(by rw [A];rfl);have Wt:=yh A;clear A oJ rN;go_wp2_with fail;refine oX bt λC nU CW jv=>?_;have VY:=jv.size;have vA:=(jv.block d.heap.size (by omega) (λz=>by rcases z with z|z;(rcases z with z|z;(have:=Mz _ z;omega);omega);omega)).trans akf;have l0:C.cell? (aD d.heap.size 0)=some (iV (y.log:Int)):=aL vA;have l1:C.cell? (aD d.heap.size 1)=some (iV (y.home:Int)):=bD vA;have l2:C.cell? (aD d.heap.size 2)=some (iV (y.blocks:Int)):=bH vA;have l3:C.cell? (aD d.heap.size 3)=some (iV (y.nodes:Int)):=fI vA;have l4:C.cell? (aD d.heap.size 4)=some (iV (y.data:Int)):=gz vA;have l:=yh (aF nU (aF CW jv));clear bt nU CW jv vA;go_wp2;go_ret2;have l6:=Im.o;rw [Wt.o] at l6;exact eD.done a.o Mz l6 Ta.o HF7.o BO aeQ Tb (by omega) l.o.1 l.o.2.1 l.o.2.2 (H.o Wt.o).1 (H.o Wt.o).2 G.1 (by rw [Mx];exact aeR)
         .have ds:(((eZ S 1 y.log hd).start Z.2 s).1 != 0)=true:=(by rw [fT];exact A);obtain⟨Wt,h33⟩:=bL A (oJ.resolve_left A);clear A oJ rN;go_wp2_with fail;refine oX bt λC nU CW jv=>?_;have VY:=jv.size;have l:=yh (aF nU jv);clear bt nU CW jv;go_wp2;go_ret2;have l6:=Im.o;rw [h33.out] at l6;exact eD.fail (F7:=more (more F wr R) w7 C) Mz l6 (by decide) l.o.1 (λj b=>by rcases b with b|b;exact(HF7.o j b).imp id (λh=>⟨h.1,by omega⟩);exact .inr ⟨by omega,b.2⟩) (BO.trans l.o.2 (λj b=>by rcases b with b|b;exact(HF7.o j b).imp id (λh=>h.1);exact .inr (by omega)))
        .have dz:(Z.1 == 0)=false:=(by rw [eG];exact qz);have dn:(Z.1 != 0)=true:=(by rw [fT];exact qz);have kO:Z.1=3:=by
          have h9:(Y.2.fl s).1≠0:=(by rw [HZ9.o];exact qz);have:=(lf h9).2.2;rwa [HZ9.o] at this
         have HSO:Yh (jP S s 3 Z.2):=yh (.inr ⟨K2.o,T.o, .inr ⟨by rw [<-a.o];exact K.o,rs,hd,by rw [<-a.o];exact O4.o, .inr ⟨CM.bX [] ps,by rw [<-a.o];exact uF, .inl ⟨by rw [<-a.o,<-oN.o,kP];exact kO,by decide,by rw [<-a.o,<-oN.o,kP]⟩⟩⟩⟩);clear qz kO kP;go_wp2_with fail;refine fk jL λw7 nF gy=>?_;have Z2:=gy.size;have BO:=Ax.trans gy (λj b=>b.imp id (λh=>by omega));have l:=yh (aF nF BO);clear jL nF gy BO b1 b2 b3 b4 b5 Ed Un Wv;go_wp2;go_ret2;exact eD.fail (F7:=more F wr R) Mz HSO.o (by decide) l.o.1 (λj b=>(HF6.o j b).imp id (λh=>⟨h.1,by omega⟩)) l.o.2
       .have dy:(Y.1 == 0)=false:=(by rw [eG];exact X);have dn:(Y.1 != 0)=true:=(by rw [fT];exact X);rw [aE X] at kP;have hy3:=b1.resolve_left X;have HSO:Yh (jP S s 3 Y.2):=yh (.inr ⟨K2.o,T.o, .inr ⟨by rw [<-a.o];exact K.o,rs,hd,by rw [<-a.o];exact O4.o, .inr ⟨CM.bX [] ps,by rw [<-a.o];exact uF, .inl ⟨by rw [<-a.o,<-oN.o,kP];exact hy3,by decide,by rw [<-a.o,<-oN.o,kP]⟩⟩⟩⟩);clear X hy3 kP;go_wp2_with fail;refine fk Wu λR po ji=>?_;have Mf:=ji.size;have Ax:=Ws.trans ji (λ_ h=> .inl h);have l:=yh (aF po Ax);clear Wu po ji Ax b1 b2 b3 b4 b5 Ed Un l0 l1 l2 l3 l4;go_wp2;go_ret2;exact eD.fail (F7:=more F wr R) Mz HSO.o (by decide) l.o.1 (λj b=>b.imp id (λh=>⟨by omega,h.2⟩)) l.o.2
   .rw [aE q] at uw;subst uw;have dq:((bu S s 1 (y.log:Int)).1 != 0)=true:=(by rw [fT];exact q);obtain⟨l,K⟩:=bL (aF N BN) q;clear N dV BN q aaq;generalize hLO:bu S s 1 (y.log:Int)=LO at*;have HLO:=yh hLO;clear hLO;go_wp2;go_ret2;refine⟨LO.1,LO.2, .inr ⟨K2.o,T.o, .inl ⟨by rw [<-a.o];exact congrArg Prod.fst HLO.o,K.o,by rw [<-a.o];exact(congrArg Prod.snd HLO.o).symm⟩⟩,l.o.2, .inl ⟨K.o,rfl,l.o.1.mono (λ_ h=> .inl h) (λk hk=>hk.elim (λh=>l.o.1.lt k h) (λh=>h.2))⟩⟩
  .have Wl:(((u32 (S.now 0) 8:Nat):Int) != ((s:Nat):Int))=true:=(by rw [fT];omega);have sO:Yh (¬lT (S.now 0) s):=yh (λh=>o7 h.2);go_quiet (first|(go_at_call 52;refine Calls.quiet_of_same (nJ _)));clear c0 nJ;go_wp2;go_ret2;exact eD.bad I.o T.o sO.o (HW.o.2.1.trans (below_drewN (bi _ _) _))
 .have sO:Yh (¬lT (S.now 0) s):=yh (λh=>h0 (HSi.o.1 h.1));obtain⟨W,M⟩:=bQ (W0.alloc (.cells #[.int .i64 0, .int .i64 0, .int .i64 0] 40));have Ur:bW w2 W:=by rw [M];exact bz.alloc bz.size _
  have CQ:=yh Ur;clear h0 bz;go_wp2_with fail;rw [<-M];clear M Ur;go_quiet (fail);go_wp2;go_ret2;exact eD.bad I.o T.o sO.o (CQ.o.trans (below_drewN (bi _ _) _))
end
end
section
section
variable {w w' U wx wy wz:World} {F:Nat->Prop} {r s:Nat} {S S':DS}
theorem qZ (wH:aa F U wx) (b:bW wx wy) (hd:aB wz (more (more F U wx) wy wz) r s S') (c:aa (more F U wx) wy wz):aB wz (more F U wz) r s S'/\aa F U wz:=by
 obtain⟨h0,d,e⟩:=jw wH.size b.size c.size;refine⟨hd.mono (λj a=>?_) (λj a=>?_),(wH.trans (aa.ah (λ_=>False) b) (λ_ h=>h.elim)).trans c (λj a=>a.imp id (λh=>h.1))⟩
 .rcases a with (a|a)|a
  .exact .inl a
  .exact .inr ⟨a.1,by omega⟩
  .exact .inr ⟨by omega,a.2⟩
 .exact a.elim (λh=>hd.lt j (.inl (.inl h))) (λh=>h.2)
theorem MA (wH:aa F U wx) (hd:aB wy (more F U wx) r s S') (b:aa (more F U wx) wx wy):aB wy (more F U wy) r s S'/\aa F U wy:=by
 have c:=b.size;refine⟨hd.mono (λj a=>a.imp id (λh=>⟨h.1,by omega⟩)) (λj a=>a.elim (λh=>hd.lt j (.inl h)) (λh=>h.2)),wH.trans b (λj a=>a.imp id (λh=>h.1))⟩
def sT (w:World) (F:Nat->Prop) (r s:Nat) (R:Int×DS) (e:Ending) (w':World):Prop:=e= .returned (iV R.1)/\aB w' (more F w w') r s R.2/\aa F w w'
theorem sT.of {R:Int×DS} (a:bW w U) (h:aB w' (more F U w') r s R.2/\aa F U w'):sT w F r s R (.returned (iV R.1)) w':=⟨rfl,tZ a h.1 h.2⟩
theorem sT.same (hd:aB w F r s S) (a:bW w w'):sT w F r s (x,S) (.returned (iV x)) w':=
   ⟨rfl,(hd.later a).mono (λ_ h=> .inl h) (λk c=>c.elim (λb=>(hd.later a).lt k b) (λh=>h.2)),aa.ah _ a⟩
theorem OM {m:Nat} (h:n<=m) (c:(sbring S s a (eK n)).1≠0):sbring S s a (eK m)=sbring S s a (eK n):=by
 obtain⟨R,b⟩:=CN h;rw [b,fi,aE c]
theorem W9 (c:S.fuse≠0) (d:1<=s):lZ S s=(S.take.wr s 0 512 (zs 512)).2.fl s/\(S.take.wr s 0 512 (zs 512)).1=0:=by
 have h0:(S.take.wr s ((0+0:Nat):Int) 512 (zs 512)).1=0:=by rw [oO (S:=S.take) (k:=0+0) c (by omega)]
 have b:sbring S.take s 0 (eK 1)=S.take.wr s ((0+0:Nat):Int) 512 (zs 512):=by
  have:=p8 (S:=S.take) (s:=s) (h0:=0) (a:= []) rfl (0,zs 512);exact this
 refine⟨?_,h0⟩;unfold lZ eu;rw [b,aA (λh=>h h0)];rfl
theorem EA (hd:aB w F r s S) (cZ:S.fC) (a b c:Int) (aT:S.puts.length+6000<=4000000000000):
  Calls prog 19 #[pQ r, .agg #[iV a,iV b,iV c]] w λe w'=>sT w F r s (bT S s a b c) e w':=by
 obtain⟨R,j⟩:=bQ (bT S s a b c);rw [<-j];unfold bT at j;obtain⟨W,D⟩:=bQ (w.alloc (.cells #[.int .i64 a, .int .i64 b, .int .i64 c] 40));have EB:bW w W:=by rw [D];exact(bi w.heap.size w).alloc (bP _) _
 have BP:W.heap[w.heap.size]? =some (.cells #[.int .i64 a, .int .i64 b, .int .i64 c] 40 (0,0)):=by rw [D];exact heap_alloc_new _ _
 have Hv:W.heap.size=w.heap.size+1:=by rw [D,World.size_alloc]
 obtain⟨xZ,km,L,T,CQ,Mp⟩:=kQ hd.ok.lo hd.ok.hi (j3 (hd.later EB)) (yh hd) (yh EB) (yh BP);have Fi:=yh cZ;have rB:=hd.lt;clear hd cZ EB BP;by_cases G:S.fuse=0
 .rw [show (S.fuse == 0)=true by simp [G]] at L;rw [aE G] at j;have d:=yh j;clear j G;go_in;go_wp2_with fail;rw [<-D];clear D;refine bE L λw1 bN=>?_;subst bN;clear L;go_wp2;go_ret;rw [d.o];exact sT.same T.o CQ.o
 .rw [show (S.fuse == 0)=false by simp [G]] at L;rw [aA G] at j;have HF:=yh G;clear G;have x0:W.cell? (aD w.heap.size 0)=some (iV a):=aL Mp.o;have x1:W.cell? (aD w.heap.size 1)=some (iV b):=bD Mp.o;have x2:W.cell? (aD w.heap.size 2)=some (iV c):=bH Mp.o;have pf:=vz a b c W;go_in;go_wp2_with fail;rw [<-D];clear D;refine bE L λw1 bN=>?_;subst bN;clear L;go_wp2_with fail;refine pf.mono ?_;rintro e V ⟨v,x,rfl,hpo,My⟩;have X3:=My.size;clear pf;have aW:=CQ.o.trans (My.mono (by omega));rcases hpo with ⟨I,rfl,rfl⟩|⟨I,rfl,rfl⟩
  .obtain⟨l,q⟩:=bQ (V.alloc (.cells #[.int .i64 b, .int .i64 (3+b), .int .i64 (a-(3+b)), .int .i64 c, .int .i64 (2+c / 4)] 75));have Us:bW w l:=(by rw [q];exact aW.alloc (by omega) _);have y0:l.cell? (aD w.heap.size 0)=some (iV a):=by
    have e1:bW w1 l:=(by rw [q];exact My.alloc X3 _);exact iu e1 (by omega) x0
   have y1:l.cell? (aD w.heap.size 1)=some (iV b):=by
    have e1:bW w1 l:=(by rw [q];exact My.alloc X3 _);exact iu e1 (by omega) x1
   have y2:l.cell? (aD w.heap.size 2)=some (iV c):=by
    have e1:bW w1 l:=(by rw [q];exact My.alloc X3 _);exact iu e1 (by omega) x2
   go_upto_region 4 with fail
   rw [<-q];clear q My aW x0 x1 x2;have nJ:=λk=>mv ((T.o.later Us).later (below_drewN (bi _ _) k));have z:=yh Us;clear Us;by_cases M:a=(s:Int)
   .have EC:(a != (s:Int))=false:=(by rw [M];simp);rw [aE ⟨I,M⟩] at j;go_quiet (first|(go_at_call 52;refine Calls.quiet_of_same (nJ _)));rename_i nq _;have hq:bW l (l.drewN nq):=below_drewN (bi _ _) nq;have TB:=yh (z.o.trans (hq.mono z.o.size));have z0:=di (aa.ah (λ_=>False) hq) (λh=>h) y0;have z1:=di (aa.ah (λ_=>False) hq) (λh=>h) y1;have z2:=di (aa.ah (λ_=>False) hq) (λh=>h) y2;clear z nJ hq y0 y1 y2;generalize l.drewN nq=U at*;obtain⟨an,A,cn,hae,rfl,rfl⟩:=Mo I;rw [Int.toNat_natCast,Int.toNat_natCast] at j;have J:=I;rw [M] at z0 J;obtain⟨d,HG⟩:=bL j J;clear j I J M EC hae;go_wp2_with fail;refine(zm (T.o.later TB.o)).mono ?_;rintro e w3 ⟨rfl,E,aV⟩;have hze:=qP w3;go_wp2_with fail;refine fk hze λw4 ub fe=>?_;have d3:aB w3 (more F U w3) r s S.take:=E.mono (λ_ h=> .inl h) (λk hk=>hk.elim (λh=>E.lt k h) (λh=>h.2));have htp:S.take.puts.length=S.puts.length:=rfl;obtain⟨xL,VU,H,ma,jB⟩:=ey (it (d3.later fe) 0 (some (aD w3.heap.size 0)) 512 512 (zs 512) (by have:=ub.src;rw [List.length_replicate] at this;exact this) (by omega)) (i9 S.take s 0 512 (zs 512)) (W9 HF.o xZ) (yh aV) (yh fe);clear hze ub fe d3 E aV;go_wp2_with fail;refine fk xL λw5 jy dX=>?_;obtain⟨d5,k5⟩:=qZ ma.o jB.o jy dX;have jL:=fw d5 (by omega);rw [<-H.1] at jL;have X8:=(Fi.o.take.wr s 0 512 (Ga 512)).fl s;have hfp:=lY (S.take.wr s 0 512 (zs 512)).2 s;rw [<-H.1] at X8 hfp;clear xL jy dX H;generalize (S.take.wr s 0 512 (zs 512))=Q1 at*;go_wp2_with fail;refine fk jL λw6 po ji=>?_;obtain⟨d6,k6⟩:=MA k5 po ji;obtain⟨Ww,Mq,Y,HZ2,Ub⟩:=ey (yh (aF d6 k6)) (yh z0) (yh z1) (yh z2) d.o;unfold ly l5 jJ mW at Ub;clear jL po ji d5 k5 d6 k6 z0 z1 z2 d;generalize lZ S s=g at*;have Km:¬F w.heap.size:=λh=>by have:=rB _ h;omega
    have rO:∀{wx:World} {o:Nat} {u:Value},aa F U wx->U.cell? (aD w.heap.size o)=some u->wx.cell? (aD w.heap.size o)=some u:=λhk hc=>di hk Km hc;by_cases N:g.1=0
    .rw [aA (λh=>h N)] at Ub;obtain⟨HP0,Cu⟩:=bL N Ub;clear Ub N;go_wp2;go_loopw [7,8] (λf i wr=>∃n:Nat,n<=s-1/\i=iV (1+(n:Int))/\f=iV (sbring g.2 s 1 (eK n)).1/\aB wr (more F U wr) r s (sbring g.2 s 1 (eK n)).2/\aa F U wr) (λ_ i _=>s-(intOf i).toNat);case atStart=>exact⟨0,dU _,rfl,by rw [HP0.o];rfl,Ww.o.1,Ww.o.2⟩
     case round=>
      obtain⟨n,hn,rfl,rfl,j7,xM⟩:=hrel;have z0r:=rO xM Mq.o;have hsp:=eA g.2 s 1 (eK n);rw [zZ] at hsp;by_cases C:(sbring g.2 s 1 (eK n)).1=0
      .have de:((sbring g.2 s 1 (eK n)).1 == 0)=true:=(by rw [C];rfl);by_cases qn:1+n<s
       .have qn':1+(n:Int)<(s:Int):=(by omega);have fZ:=p8 C (n,zs 512);rw [<-CK,show ((1+n:Nat):Int)=1+(n:Int) by omega] at fZ;obtain⟨sH,CP⟩:=bL j7 xM;clear j7 xM;go_wp2_with fail;refine(qP wr).mono ?_;rintro e w7 ⟨rfl,hr7,vU⟩;have xL:=it (sH.o.later vU) (1+(n:Int)) (some (aD wr.heap.size 0)) 512 512 (zs 512) (by have:=hr7.src;rw [List.length_replicate] at this;exact this) (by omega);rw [<-fZ] at xL;have Fk:=yh vU;clear hr7 vU fZ;go_wp2_with fail;refine fk xL λw8 nU jv=>?_;have t:=yh (qZ CP.o Fk.o nU jv);clear xL nU jv;go_wp2;go_roundw;case rel=>exact⟨n+1,by omega,by first|rfl|go_num|(congr 1;omega),rfl,t.o⟩
        case measure=>simp [intOf];omega
       .have qn':¬1+(n:Int)<(s:Int):=(by omega);obtain rfl:n=s-1:=(by omega);have hsw:eu g.2 s 1 (s-1)=(sbring g.2 s 1 (eK (s-1))).2.fl s:=(by unfold eu;rw [aA (λh=>h C)]);have Gh:=Cu.o;have jL:=fw j7 (by omega);rw [<-hsw] at jL;have akl:=j8 X8 s 1 (s-1);have arB:=lR g.2 s 1 (s-1);have CP:=yh xM;clear hsw j7 xM Cu;generalize eu g.2 s 1 (s-1)=Z at*;by_cases K:Z.1=0
        .have d2:(Z.1 == 0)=true:=(by rw [K];rfl);rw [aA (λh=>h K)] at Gh;clear K;go_wp2_with fail;refine fk jL λw7 nF gy=>?_;obtain⟨d7,k7⟩:=MA CP.o nF gy;have z17:=rO k7 Y.o;have y:=GZ d7 akl 1 (A:Int) (by omega);have arF:=tY Z.2 s 1 (A:Int) (by have:=HG.o.1.2;omega);have X:=yh k7;clear jL nF gy d7 k7 z0r;generalize cy Z.2 s 1 (A:Int)=P3 at*;by_cases O:P3.1=0
         .have d3:(P3.1 == 0)=true:=(by rw [O];rfl);rw [aA (λh=>h O)] at Gh;clear O;go_wp2_with fail;refine fk y λw8 nU jv=>?_;obtain⟨d8,k8⟩:=qZ X.o (bi _ _) nU jv;have z18:=rO k8 Y.o;have z08:=rO k8 Mq.o;have z28:=rO k8 HZ2.o;have aax:=yh (aF d8 k8);clear y nU jv d8 k8 z17;go_wp2_with fail;refine(uu s A cn w8 HG.o).mono ?_;rintro e w9 ⟨v9,rfl,hm9⟩;obtain⟨g9,c9,rfl,hg9,TY,A3⟩:=hm9.out (ki s A cn);have xL:=it (aax.o.1.later A3) 0 (some (aD g9 0)) 512 c9 (gH s A cn) (by have:=TY.src;rwa [ki] at this) (by omega);have arG:=i9 P3.2 s 0 512 (gH s A cn);have Q:=yh A3;clear hm9 TY A3;generalize P3.2.wr s 0 512 (gH s A cn)=P4 at*;by_cases P:P4.1=0
          .have d4:(P4.1 == 0)=true:=(by rw [P];rfl);rw [aA (λh=>h P)] at Gh;have d:=yh Gh;clear P Gh;go_wp2_with fail;refine fk xL λwa m p=>?_;obtain⟨da,ka⟩:=qZ aax.o.2 Q.o m p;have aeV:=fw da (by omega);have HKa:=yh ka;clear xL m p da ka;go_wp2_with fail;refine fk aeV λwb hdb oZ=>?_;have t:=yh (MA HKa.o hdb oZ);clear aeV hdb oZ;go_wp2;go_ret;rw [d.o];exact sT.of TB.o t.o
          .have d4:(P4.1 == 0)=false:=(by rw [eG];exact P);rw [aE P] at Gh;have d:=yh Gh;clear P Gh;go_wp2_with fail;refine fk xL λwa m p=>?_;have t:=yh (qZ aax.o.2 Q.o m p);clear xL m p;go_wp2;go_ret;rw [d.o];exact sT.of TB.o t.o
         .have d3:(P3.1 == 0)=false:=(by rw [eG];exact O);rw [aE O] at Gh;have d:=yh Gh;clear O Gh;go_wp2_with fail;refine fk y λw8 nU jv=>?_;have t:=yh (qZ X.o (bi _ _) nU jv);clear y nU jv;go_wp2;go_ret;rw [d.o];exact sT.of TB.o t.o
        .have d2:(Z.1 == 0)=false:=(by rw [eG];exact K);rw [aE K] at Gh;have d:=yh Gh;clear K Gh;go_wp2_with fail;refine fk jL λw7 nF gy=>?_;have t:=yh (MA CP.o nF gy);clear jL nF gy;go_wp2;go_ret;rw [d.o];exact sT.of TB.o t.o
      .have de:((sbring g.2 s 1 (eK n)).1 == 0)=false:=(by rw [eG];exact C);have d:Yh (R=sbring g.2 s 1 (eK n)):=yh (by
        have h9:eu g.2 s 1 (s-1)=sbring g.2 s 1 (eK n):=(by unfold eu;rw [(OM hn C),aE C]);rw [Cu.o,h9,aE C])
       have sH:=yh (aF j7 xM);clear j7 xM C;by_cases qn:1+(n:Int)<(s:Int);all_goals
        go_wp2;go_ret;rw [d.o];exact sT.of TB.o sH.o
    .rw [aE N] at Ub;have d:=yh Ub;have dq:(g.1 == 0)=false:=(by rw [eG];exact N);have z06:=rO Ww.o.2 Mq.o;clear Ub N;go_wp2;go_loopw [7,8] (λf i wr=>f=iV g.1/\i=iV 1/\wr=w6) (λ_ _ _=>0);case atStart=>exact⟨rfl,rfl,rfl⟩
     case round=>
      obtain⟨rfl,rfl,rfl⟩:=hrel;by_cases K:(1:Int)<(s:Int);all_goals
       go_wp2;go_ret;rw [d.o];exact sT.of TB.o Ww.o
   .have EC:(a != (s:Int))=true:=(by rw [fT];exact M);rw [aA (λh=>M h.2)] at j;have d:=yh j;clear j;go_quiet (first|(go_at_call 52;refine Calls.quiet_of_same (nJ _)));clear nJ y0 y1 y2;go_wp2;go_ret;rw [d.o];exact sT.same T.o (z.o.trans ((below_drewN (bi _ _) _).mono z.o.size))
  .obtain⟨l,q⟩:=bQ (V.alloc (.cells #[.int .i64 0, .int .i64 0, .int .i64 0, .int .i64 0, .int .i64 0] 75));have Us:bW w l:=(by rw [q];exact aW.alloc (by omega) _);rw [aA (λh=>I h.1)] at j;obtain⟨d,z⟩:=bL j Us
   go_upto_region 4 with fail
   rw [<-q];clear q My aW x0 x1 x2 j I Us;go_quiet (fail);go_wp2;go_ret;rw [d.o];exact sT.same T.o (z.o.trans ((below_drewN (bi _ _) _).mono z.o.size))
end
end
section
section
variable {S S':DS} {s t i:Nat} {ls:List LG} {L:LG} {G:SG}
theorem V.Inv.idle (h:V.Inv S s ls t) (iZ:∀M∈ls,M.life<S.life) (c:S'.Ok s) (pO:S'.fC) (f:S'.puts.length<=6000) (d:S'.fuse≠0->S'.puts.length<=256) (b:S'.life=S.life):V.Inv S' s ls t:=
   ⟨c,pO,f,d,by rw [b];exact h.l0,by rw [b];exact h.lt,λM a=>by rw [b];exact h.ol M a,h.li,λM a e=>by have:=iZ M a;omega⟩
theorem AV (h:S.Ok s):(S.fl s).2.Ok s/\(S.fl s).2.life=S.life/\((S.fl s).1≠0->(S.fl s).2.fuse=0/\(S.fl s).2.puts.length<=S.puts.length)/\((S.fl s).1=0->(S.fl s).2.puts= []):=
   ⟨qx h,fO _ _,λc=>by obtain⟨a,b,_⟩:=lf c;rw [a];exact⟨b,bP _⟩,jf⟩
theorem qu (h:S.Ok s) (r:a+n<=s):(eu S s a n).2.Ok s/\(eu S s a n).2.life=S.life/\((eu S s a n).1≠0->(eu S s a n).2.fuse=0)/\((eu S s a n).1=0->(eu S s a n).2.puts= []):=by
 obtain⟨o,b,c,e,p⟩:=ev (h0:=a) (ms:=eK n) h (λq d=>by
  unfold eK at d;obtain⟨i,m,rfl⟩:=List.mem_map.1 d;have:=List.mem_range.1 m;exact⟨by show a+i<s;omega,bB 512⟩)
 unfold eu;split
 .rename_i q;exact⟨c,b,e,λh0=>absurd h0 q⟩
 .obtain⟨f,g,j,k⟩:=AV c;exact⟨f,g.trans b,λl=>(j l).1,k⟩
theorem rP (h:S.Ok s) (vJ:0<=S.life) {t:Nat} (bm:S.life<=t) (k:t<=1000000000000000000) (d:S.fuse≠0) (j:S.puts= []) (f n:Int):(cy S s f n).2.Ok s/\(S.life<=(cy S s f n).2.life)/\((cy S s f n).1=0->(cy S s f n).2.puts= []):=by
 unfold cy;split
 .exact⟨h,Int.le_refl _,λ_=>j⟩
 .rename_i e;obtain⟨_,a,b,rfl,rfl,oz,aq,aW⟩:=fM (Decidable.of_not_not e);simp only [Int.toNat_natCast];have zj:=jr vJ bm k;have dh:S.take.Ok s:=⟨h.len,h.lo,h.hi,h.puts,h.fuse⟩;obtain⟨l,c,p,m⟩:=kF (f:=a) (n:=b) dh oz;have mb:=l.trans zj;split
  .rename_i h0;exact⟨c,by omega,λi=>absurd i h0⟩
  .rename_i h0;obtain⟨o,q⟩:=m (Decidable.of_not_not h0);have fy:=(iJ (cK S.take s a b).2 s a 4294967296).trans mb;refine⟨(nM c (by omega) _).1,by omega,λg=>?_⟩;exact(tQ (s:=s) (f:=a) (N:=4294967296) c (by omega) (by omega) (by omega) (by rw [o];omega) g).2
theorem V.Inv.aeW (h:V.Inv S s ls t) (ht:t+2<=1000000000000000000) (a b c:Int):V.Inv (bT S s a b c).2 s ls (t+2):=by
 unfold bT;split
 .exact h.step.step
 .rename_i U;split
  .rename_i W;obtain⟨o8,hs⟩:=W;obtain⟨⟨l1,l2⟩,⟨n1,n2⟩,h3,s1,s2⟩:=o8;have ed:1<=s:=(by omega);have pz:=h.take (by omega:t<=1000000000000000000);have Ag:S.take.life=S.life+1:=jr h.l0 h.lt (by omega);have iZ:∀M∈ls,M.life<S.life+1:=λM y=>by have:=(h.ol M y).2;omega
   have uK:=h.p2 U;obtain⟨q,i,C,D⟩:=qu pz.ok (a:=0) (n:=1) (by omega);have r:=j8 pz.pO s 0 1;have K:=lR S.take s 0 1;have X:S.take.puts.length=S.puts.length:=rfl;unfold ly;have P:lZ S s=eu S.take s 0 1:=rfl;have Q:mW S s=eu (lZ S s).2 s 1 (s-1):=rfl;have I:∀l,jJ S s l=cy (mW S s).2 s 1 (l:Int):=λ_=>rfl;have R:∀l n,l5 S s l n=(jJ S s l).2.wr s 0 512 (gH s l n):=λ_ _=>rfl;rw [<-P] at q i C D r K;generalize lZ S s=A at*;by_cases m:A.1≠0
   .rw [aE m];exact(pz.idle (by rw [Ag];exact iZ) q r (by have:=h.p6;omega) (λc=>absurd (C m) c) i).step
   .rw [aA m];obtain⟨j,u,E,F⟩:=qu q (a:=1) (n:=s-1) (by omega);have v:=j8 r s 1 (s-1);have w:=lR A.2 s 1 (s-1);have km:=h.ok.hi;rw [<-Q] at j u E F v w;generalize mW S s=p at*;by_cases o:p.1≠0
    .rw [aE o];exact(pz.idle (by rw [Ag];exact iZ) j v (by rw [(D (Decidable.not_not.1 m))] at w;simp at w;omega) (λc=>absurd (E o) c) (u.trans i)).step
    .rw [aA o];have d:=F (Decidable.not_not.1 o);have Dm:=pz.idle (by rw [Ag];exact iZ) j v (by rw [d];exact dU _) (λ_=>by rw [d];exact dU _) (u.trans i);by_cases A7:p.2.fuse=0
     .have T:∀l,jJ S s l=(3,p.2):=λl=>by
       rw [I];unfold cy cq;rw [aE A7];simp
      rw [T,aE (by show (3:Int)≠0;decide)];exact Dm.step
     .obtain⟨G,L,H⟩:=rP j Dm.l0 Dm.lt (by omega) A7 d 1 ((b.toNat:Nat):Int);have Ps:=Dm.format (by omega) 1 ((b.toNat:Nat):Int) G;rw [<-I] at G L H Ps;have x:=R b.toNat c.toNat;generalize jJ S s b.toNat=P3 at*;have aeX:∀M∈ls,M.life<P3.2.life:=λM y=>by have:=iZ M y;omega
      by_cases z:P3.1≠0
      .rw [aE z];exact Ps
      .rw [aA z];have aay:=kq P3.2 s 0 512 (gH s b.toNat c.toNat);have VU:=i9 P3.2 s 0 512 (gH s b.toNat c.toNat);have aeY:(gH s b.toNat c.toNat).length=512:=ki _ _ _;have sb:Bytes (gH s b.toNat c.toNat):=(gM _ _ _).append (iF _ _);have f:=Ps.pO.wr s 0 512 sb;have Nz:(P3.2.wr s 0 512 (gH s b.toNat c.toNat)).2.Ok s:=by
        by_cases Pt:P3.2.fuse=0
        .have:P3.2.wr s 0 512 (gH s b.toNat c.toNat)=(3,P3.2):=(by unfold DS.wr;rw [aE Pt]);rw [this];exact Ps.ok
        .exact tP (k:=0) Ps.ok Pt (by omega) aeY
       rw [<-x] at aay VU f Nz;rw [(H (Decidable.not_not.1 z))] at VU;generalize l5 S s b.toNat c.toNat=g at*;have e:V.Inv g.2 s ls (t+2):=Ps.idle aeX Nz f (by simp at VU;omega) (λ_=>by simp at VU;omega) aay;by_cases J:g.1≠0
       .rw [aE J];exact e
       .rw [aA J];obtain⟨N,O,Y,Z⟩:=AV Nz;refine e.idle (by rw [aay];exact aeX) N (f.fl s) ?_ ?_ O
        .have:=lY g.2 s;have:=e.p6;omega
        .intro _;have:=lY g.2 s;simp at VU;omega
  .exact h.step.step
end
end
section
section
variable {S S1 S2:DS} {s t:Nat} {ls:List LG} {L L':LG} {x y:Int}
theorem jH.same {f Pv:Nat} {Ba:List (List Int)} (a:jH S f n rs hd) (b:jH S f n Ba Pv):rs=Ba/\hd=Pv:=dC.unique a.t a.x b.t b.x
theorem jP.same (u:jP S s x S1) (v:jP S s y S2):x=y/\S1=S2:=by
 rcases u with ⟨n,p,rfl⟩|⟨u1,r,g⟩<;> rcases v with ⟨o,q,rfl⟩|⟨u2,t,i⟩
 .refine⟨?_,rfl⟩;rcases n with ⟨a,_,rfl⟩|⟨_,_,_,rfl⟩|⟨a,c,_,rfl⟩<;> rcases o with ⟨b,_,rfl⟩|⟨_,_,_,rfl⟩|⟨b,d,_,rfl⟩<;> first|rfl|exact absurd rfl p|exact absurd rfl q|exact absurd a b|exact absurd b a
 .exfalso;rcases n with ⟨a,_,_⟩|⟨_,_,_,rfl⟩|⟨_,c,_,_⟩
  .exact t a
  .exact p rfl
  .exact c u2
 .exfalso;rcases o with ⟨a,_,_⟩|⟨_,_,_,rfl⟩|⟨_,c,_,_⟩
  .exact r a
  .exact q rfl
  .exact c u1
 .rcases g with ⟨l,w,rfl⟩|⟨D,rs,hd,A,g⟩<;> rcases i with ⟨m,z,rfl⟩|⟨E,Ba,Pv,C,i⟩
  .exact⟨l.symm.trans m,rfl⟩
  .exact absurd (l.symm.trans E) w
  .exact absurd (m.symm.trans D) z
  .obtain⟨rfl,rfl⟩:=A.same C;rcases g with ⟨a,c,e⟩|⟨ov,j,g⟩<;> rcases i with ⟨b,d,f⟩|⟨Pj,k,i⟩
   .exact⟨c.trans d.symm,e.trans f.symm⟩
   .rw [a] at k;cases k
   .rw [b] at j;cases j
   .obtain rfl:ov=Pj:=Option.some.inj (j.symm.trans k);rcases g with ⟨a,c,e⟩|⟨a,c,e⟩<;> rcases i with ⟨b,d,f⟩|⟨b,d,f⟩
    .exact⟨a.symm.trans b,e.trans f.symm⟩
    .exact absurd (a.symm.trans b) c
    .exact absurd (b.symm.trans a) d
    .exact⟨c.symm.trans d,e.trans f.symm⟩
theorem sR.same (a:sR S s L) (b:sR S s L'):L=L':=by
 obtain⟨rs,hd,ov,e,c,rfl⟩:=a;obtain⟨Ba,Pv,Pj,f,d,rfl⟩:=b;obtain⟨rfl,rfl⟩:=e.same f;obtain rfl:ov=Pj:=Option.some.inj (c.symm.trans d);rfl
theorem C5 (dh:S.Ok s) (b:L.Ok s) (i:L.begun=false) (g:L.life=S.life) (j:S.num L.f<(L.top+1)*4294967296) (h0:(L.start S s).1≠0):(L.start S s).2.1.fuse=0/\(L.start S s).2.1.life=S.life/\(L.start S s).2.1.Ok s/\(L.start S s).2.1.puts.length<=S.puts.length+1:=by
 obtain⟨l,iQ,k⟩:=jw b.s b.n1 b.top;unfold LG.start at h0⊢;by_cases hd:L.dead S=true
 .rw [aE hd];refine⟨?_,rfl,dh,by show S.puts.length<=_;omega⟩;unfold LG.dead at hd;rw [g] at hd;simpa using hd
 .rw [aA hd,aA (by rw [i];decide)] at h0⊢;have e:(((L.top+1:Nat):Int)*4294967296+((0:Nat):Int))=(((L.top+1)*4294967296:Nat):Int):=by omega
  rw [e] at h0⊢;by_cases a:(cW S s L.f (((L.top+1)*4294967296:Nat):Int)).1≠0
  .rw [aE a];obtain⟨c,d⟩:=pN (by omega) (is (br dh L.f (by omega)) (br dh (L.f+1) (by omega)) (N:=(L.top+1)*4294967296) (by omega) j) a;exact⟨c,iJ _ _ _ _,(nM dh (by omega) _).1,d⟩
  .rw [aA a] at h0;exact absurd rfl h0
theorem Ay:∀{ks:List Nat} {l r:List Int} {cs:CM},rdCons ks l=some (cs,r)->∀q∈cs,q.2.length=512
 | [],l,r,cs,h=>by
  simp only [rdCons,Option.some.injEq,Prod.mk.injEq] at h;obtain⟨rfl,_⟩:=h;intro q a;cases a
 |k :: ks,l,r,cs,h=>by
  rw [iw] at h;split at h
  .cases h
  .rename_i c;cases b:rdCons ks (l.drop 512) with
   |none=>rw [b] at h;cases h
   |some x=>
    rw [b] at h;simp only [Option.map_some,Option.some.injEq,Prod.mk.injEq] at h;obtain⟨rfl,rfl⟩:=h;intro q a;rcases List.mem_cons.1 a with rfl|a
    .show (l.take 512).length=512;rw [List.length_take];omega
    .exact Ay (cs:=x.1) (r:=x.2) b q a
theorem ON {blocks:Nat} {d:List Int} {cs:CM} (h:rdRec blocks d=some cs):∀q∈cs,q.1<blocks/\q.2.length=512:=λq f=>by
 refine⟨sN h q f,?_⟩;unfold rdRec at h;split at h
 .cases h
 .split at h
  .cases g:rdNums blocks (le (d.take 2)) 0 (d.drop 2) with
   |none=>rw [g] at h;cases h
   |some x=>
    obtain⟨ks,r⟩:=x;rw [g] at h;have c:rdTail (rdCons ks r)=some cs:=h;cases e:rdCons ks r with
    |none=>rw [e] at c;cases c
    |some y=>
     obtain⟨j,i⟩:=y;rw [e] at c;cases i with
     |nil=>
      simp only [rdTail,Option.some.injEq] at c;subst c;exact Ay e q f
     |cons a b=>cases c
  .cases h
theorem vB {blocks:Nat}:∀{rs:List (List Int)} {ms ov:CM},rdAll blocks ms rs=some ov->(∀q∈ms,q.1<blocks/\q.2.length=512)->∀q∈ov,q.1<blocks/\q.2.length=512
 | [],ms,ov,h,hm=>by
  simp only [rdAll,Option.some.injEq] at h;rw [<-h];exact hm
 |r :: rs,ms,ov,h,hm=>by
  rw [sS] at h;cases a:rdRec blocks r with
  |none=>rw [a] at h;cases h
  |some cs=>
   rw [a] at h;exact vB h (λq b=>(tV b).elim (hm q) (ON a q))
theorem In {blocks:Nat}:∀{rs:List (List Int)} {ms ov:CM},rdAll blocks ms rs=some ov->CM.Ok ms->CM.Ok ov
 | [],ms,ov,h,hm=>by
  simp only [rdAll,Option.some.injEq] at h;rw [<-h];exact hm
 |r :: rs,ms,ov,h,hm=>by
  rw [sS] at h;cases a:rdRec blocks r with
  |none=>rw [a] at h;cases h
  |some cs=>
   rw [a] at h;exact In h (CM.qM hm cs)
theorem Tc (dh:S.Ok s) (a:L.Ok s):(L.start S s).2.1.Ok s:=by
 have b:=a.s;have iQ:=a.n1;unfold LG.start;split
 .exact dh
 .split
  .exact dh
  .split <;> exact(nM dh (by omega) _).1
theorem Io {y:LY} {ov:CM} (dh:S.Ok s) (c:S.puts= []) (n:∀q∈ov,y.home+q.1<s/\q.2.length=512) (v:ov.length<=2048) (t:3<=y.home) (fB:3<=s):(ee S s y ov rs).2.Ok s/\(ee S s y ov rs).2.life=S.life/\((ee S s y ov rs).1≠0->(ee S s y ov rs).2.fuse=0)/\((ee S s y ov rs).1=0->(ee S s y ov rs).2.puts= [])/\(ee S s y ov rs).2.puts.length<=3000/\∀i,i<3->(ee S s y ov rs).2.now i=S.now i:=by
 obtain⟨u,d,b,g,f⟩:=ev (h0:=y.home) (ms:=ov) dh n;have a:=eA S s y.home ov;rw [c] at a;have arJ:(sbring S s y.home ov).2.puts.length<=2048:=by simp at a;omega
 unfold ee;split
 .exact⟨dh,rfl,λh=>absurd rfl h,λ_=>c,by show S.puts.length<=3000;rw [c];exact dU _,λ_ _=>rfl⟩
 .split
  .rename_i q;exact⟨b,d,g,λh=>absurd h q,by omega,λi p=>f i (λq r e=>by omega)⟩
  .obtain⟨j,k,l,m⟩:=AV b;have:=lY (sbring S s y.home ov).2 s;exact⟨j,k.trans d,λo=>(l o).1,m,by omega,λi p=>(eU b (by omega)).trans (f i (λq r e=>by omega))⟩
theorem V.Inv.fv (h:V.Inv S s ls t) (Y:t+2<=1000000000000000000) (J:jP S s x S1):(x≠0->V.Inv S1 s ls (t+1))/\(x=0->∀L,sR S s L->V.Inv S1 s (ls ++ [L]) (t+1)):=by
 rcases J with ⟨_,O,rfl⟩|⟨qv,X,k⟩
 .exact⟨λ_=>h.step,λh0=>absurd h0 O⟩
 .rcases k with ⟨m,e,rfl⟩|⟨l,rs,hd,Fl,k⟩
  .exact⟨λ_=>h.xz (by omega) _ _ (by rw [m];exact e),λh0=>absurd h0 e⟩
  .have uv:=kh qv;obtain⟨y,D⟩:=bQ (cz (S.now 0));have w:3<=y.home:=(by rw [D];show 3<=3+u32 (S.now 0) 12;omega);unfold sR;rw [<-D] at uv l Fl k⊢;obtain⟨Wr,Ez,Ii,Ij⟩:=lV (f:=1) l;obtain⟨uS,CA,p,u⟩:=Fl.small h.pO (by omega);have xn:=xQ (s:=s) Fl h.pO Ez Ii (by omega) (by omega) (by omega);have b:=jr h.l0 h.lt (by omega:t<=1000000000000000000);have pz:S.take.Ok s:=⟨h.ok.len,h.ok.lo,h.ok.hi,h.ok.puts,h.ok.fuse⟩;have ox:bu S s 1 (y.log:Int)=S.take.fl s:=Ij;have z:(S.take.fl s).1=0:=(by rw [<-ox];exact l);have oY:=jf z;have aaz:=qx (s:=s) pz;have aeZ:=h.pO.take.fl s;have cm:(S.take.fl s).2.life=S.life+1:=(fO _ _).trans b;have iQ:∀i,i<s->(S.take.fl s).2.now i=S.now i:=λi d=>eU (S:=S.take) pz d;have Jv:S.num 1<((eZ S 1 y.log hd).top+1)*4294967296:=Et Ez;have ae0:(eZ S 1 y.log hd).life=S.life+1:=b;have iZ:∀M∈ls,M.life<S.life+1:=λM I=>by have:=(h.ol M I).2;omega
   have uw:=h.opened (by omega:t<=1000000000000000000) 1 (y.log:Int) (by rw [ox];exact aaz) l (hd:=hd) p (by simpa using u);rw [ox] at k uw⊢;have Ac:=h.next aaz aeZ (by rw [oY];exact dU _) (λ_=>by rw [oY];exact dU _) cm;have ae1:V.Inv (S.take.fl s).2 s (ls ++ [eZ S 1 y.log hd]) (t+1):=uw;generalize S.take.fl s=P at*;have ae2:∀M∈ls,M.life<P.2.life:=(by rw [cm];exact iZ);rcases k with ⟨U,rfl,rfl⟩|⟨ov,uF,k⟩
   .exact⟨λ_=>Ac,λh0=>absurd h0 (by decide)⟩
   .have Wx:=vB uF (λq a=>by cases a);have Ed:∀q∈ov,y.home+q.1<s/\q.2.length=512:=λq a=>⟨by have:=(Wx q a).1;omega,(Wx q a).2⟩;have aea:ov.length<=2048:=by
     have:=h.ok.hi;rcases CM.length_le (n:=2048) (In uF rD) (λq a=>by have:=(Ed q a).1;omega) 0 (λ_ _=>dU _) with h1|h1
     .omega
     .rw [h1];simp
    obtain⟨g,j,R,E,Z,F⟩:=Io (rs:=rs) aaz oY Ed aea w (by omega);have Td:=C4 (s:=s) (y:=y) (rs:=rs) aeZ (qt uF (λx v=>by cases v) (λr K=>(CA r K).1));have ae3:∀L,(∃Ba Pv Pj,jH S 1 y.log Ba Pv/\rdAll y.blocks [] Ba=some Pj/\L=((eZ S 1 y.log Pv).start (ee P.2 s y Pj Ba).2 s).2.2)->L=((eZ S 1 y.log hd).start (ee P.2 s y ov rs).2 s).2.2:=λL o=>by
     obtain⟨Ba,Pv,Pj,T,Q,rfl⟩:=o;obtain⟨rfl,rfl⟩:=Fl.same T;obtain rfl:ov=Pj:=Option.some.inj (uF.symm.trans Q);rfl
    generalize ee P.2 s y ov rs=Rd at*;have X9:=Ac.idle ae2 g Td (by omega) (λA7=>by
     by_cases q:Rd.1=0
     .rw [E q];exact dU _
     .exact absurd (R q) A7) j
    have Ya:Rd.2.num (eZ S 1 y.log hd).f<((eZ S 1 y.log hd).top+1)*4294967296:=by
     show Rd.2.num 1<_;rw [vw (S:=S) (S':=Rd.2) ((F 1 (by omega)).trans (iQ 1 (by omega))) ((F 2 (by omega)).trans (iQ 2 (by omega)))];exact Jv
    have ako:(eZ S 1 y.log hd).life=Rd.2.life:=(by rw [ae0,j,cm]);rcases k with ⟨rfl,N,rfl⟩|⟨e,rfl,rfl⟩
    .exact⟨λ_=>X9,λh0=>absurd h0 N⟩
    .have akp:((eZ S 1 y.log hd).start Rd.2 s).2.1.fC:=by
      unfold LG.start;split
      .exact Td
      .split
       .exact Td
       .split <;> exact Td.cW s _ _
     refine⟨λv=>?_,λ_ L o=>?_⟩
     .obtain⟨m,G,H,W⟩:=C5 g xn rfl ako Ya v;exact X9.idle (by rw [j];exact ae2) H akp (by omega) (λc=>absurd m c) G
     .rw [ae3 L o];have d:(ls ++ [eZ S 1 y.log hd])[ls.length]? =some (eZ S 1 y.log hd):=(by simp);have A:=ae1.on d (by rw [ae0,cm]) g Td j (by omega) xn rfl (λ_=>⟨λc=>(by cases c),λ_=>⟨by rw [E e];rfl,Ya⟩⟩);have oT:(ls ++ [eZ S 1 y.log hd]).set ls.length (eZ S 1 y.log hd)=ls ++ [eZ S 1 y.log hd]:=(by simp);rw [oT] at A;have C:=A.start d (Tc g xn);have ae4:(ls ++ [eZ S 1 y.log hd]).set ls.length ((eZ S 1 y.log hd).start Rd.2 s).2.2=ls ++ [((eZ S 1 y.log hd).start Rd.2 s).2.2]:=(by simp);rw [ae4] at C;exact C
end
end
end Go.Proofs.YtenlkgicpllbhabGreat
