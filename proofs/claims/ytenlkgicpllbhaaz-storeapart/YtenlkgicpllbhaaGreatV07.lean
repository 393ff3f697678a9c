import Derived.Test.YtenlkgicpllbhaaGreatV01
import Derived.Test.YtenlkgicpllbhaaGreatV03
import Derived.Test.YtenlkgicpllbhaaGreatV04
import Derived.Test.YtenlkgicpllbhaaGreatV05
import Derived.Test.YtenlkgicpllbhaaGreatV06
import Derived.Laws.AppendOwn
import Derived.Lib.AppendStr
import Derived.OwnWalk
import Derived.Deep.RegionLaw
set_option maxRecDepth 20000
set_option maxHeartbeats 8000000
set_option linter.all false
namespace Go.Proofs.YtenlkgicpllbhaaGreat
open Go.Proofs.Tryz
open Go.RowKit Go.Maps
variable {ms:CM} {S S':DS} {us:List (Nat×List Int)} {d l:List Int} {c cR bZ g g2 gp h0 i k n p s:Nat} {F:Nat->Prop} {v:Value} {w w' w0 w1 w2 w3:World}
def eK (n:Nat):CM:=(List.range n).map λi=>(i,zs 512)
theorem zZ (n:Nat):(eK n).length=n:=by simp [eK]
theorem CK (n:Nat):eK (n+1)=eK n ++ [(n,zs 512)]:=by simp [eK,List.range_succ]
theorem CN {j:Nat} (h:j<=n):∃r,eK n=eK j ++ r:=by
 refine⟨(eK n).drop j,?_⟩;have:eK j=(eK n).take j:=by
  unfold eK;rw [<-List.map_take,List.take_range,Nat.min_eq_left h]
 rw [this,List.take_append_drop]
def eu (S:DS) (s a n:Nat):Int×DS:=if (sbring S s a (eK n)).1≠0 then sbring S s a (eK n) else (sbring S s a (eK n)).2.fl s
theorem lR (S:DS) (s a n:Nat):(eu S s a n).2.puts.length<=S.puts.length+n:=by
 have h:=eA S s a (eK n);rw [zZ] at h;unfold eu;split
 .exact h
 .exact jQ (lY _ _) h
theorem CO (hd:B.ax w F p s S c) (a b:Nat) (oz:a<=b) (M:b<=4000000000) (aT:S.puts.length+(b-a)+1<=4000000000000):
  Calls prog 49 #[pQ p,iV (a:Int),iV (b:Int)] w λe w'=>e= .returned (iV (eu S s a (b-a)).1)/\B.ax w' (more F w w') p s (eu S s a (b-a)).2 c/\aa F w w':=by
 obtain⟨n,rfl⟩:∃n,b=a+n:=⟨b-a,by omega⟩;rw [Nat.add_sub_cancel_left] at aT⊢;clear oz;obtain⟨R,t⟩:=bQ (eu S s a n);rw [<-t];unfold eu at t;obtain⟨ib,H,D⟩:=jS hd.lt hd t;clear hd t;go_in;go_wp2_with (at_make;refine iH _ rfl _ _ rfl _ 512 512 rfl rfl rfl (bP _) (by omega) ?_;intro w1 aZ aq);have Bj:=aZ.lt;have fJ:Src w1 (some (aD w.heap.size 0)) 512 (zs 512):=by
  have:=aZ.src (o:=0) (n:=512) (by rw [bB];omega);rwa [List.drop_zero,nh (by rw [bB];omega)] at this
 obtain⟨I5,Rx,cN⟩:=jS fJ (H.o.later aq) aq;clear aZ aq fJ;have K:((a+n:Nat):Int)<=4000000000:=by omega
 go_loopw [8] (λi wr=>∃j:Nat,j<=n/\i=iV ((a+j:Nat):Int)/\(sbring S s a (eK j)).1=0/\B.ax wr (more F w1 wr) p s (sbring S s a (eK j)).2 c/\aa F w1 wr) (λi _=>a+n-(intOf i).toNat);case atStart=>exact⟨0,dU _,rfl,rfl,Rx.o.more,aa.refl _ _⟩
 case round=>
  clear Rx;obtain⟨j,N,rfl,u,hd,fP⟩:=hrel;have C:=fP.size;have sB:=eA S s a (eK j);rw [zZ] at sB;have Mi:Yh (∀k,F k->k<w1.heap.size):=λk z=>by have:=ib.o k z;omega
  have A:¬F w.heap.size:=λz=>by have:=ib.o _ z;omega
  by_cases bm:j<n
  .have cw:((a+j:Nat):Int)<((a+n:Nat):Int):=(by omega);have kP:=I5.o.nB fP (λy L _ e=>by
    cases L;exact A e)
   have fZ:sbring S s a (eK (j+1))=(sbring S s a (eK j)).2.wr s ((a+j:Nat):Int) 512 (zs 512):=by
    rw [CK,fi,aA (λh=>h u)];simp only [sbring];split
    .rfl
    .rename_i h;generalize DS.wr _ _ _ _ _=Z at*;rw [<-(Decidable.byContradiction h)]
   have f:=B.D2 hd ((a+j:Nat):Int) (some (aD w.heap.size 0)) 512 512 (zs 512) kP (by omega);rw [<-fZ] at f;obtain⟨r,G⟩:=CN (Nat.succ_le_of_lt bm);have mO:sbring S s a (eK n)=if (sbring S s a (eK (j+1))).1≠0 then sbring S s a (eK (j+1)) else sbring (sbring S s a (eK (j+1))).2 s a r:=by
    rw [G];exact fi S s a _ _
   obtain⟨Y,x⟩:=bQ (sbring S s a (eK (j+1)));rw [<-x] at f mO;obtain⟨E,I,q⟩:=jS x mO fP;clear x mO fZ G hd fP kP u sB;by_cases l:Y.1=0
   .have J:(Y.1 != 0)=false:=(by rw [l];rfl);have Ug:=yh l;clear l;go_wp2_with fail;refine fk f λw5 jy dX=>?_;have qE:=dX.size;have g:Yh (B.ax w5 (more F w1 w5) p s Y.2 c/\aa F w1 w5):=⟨jy.mono (uV C qE) (cG (F:=F) (w:=w1) Mi.o (by omega)),q.o.trans dX (λk d=>d.elim .inl (λh=> .inr h.1))⟩;clear f jy dX;go_wp2;go_roundw;case rel=>exact⟨j+1,by omega,by go_num,by rw [<-E.o];exact Ug.o,by rw [<-E.o];exact g.o.1,g.o.2⟩
    case measure=>simp [intOf];omega
   .have J:(Y.1 != 0)=true:=(by rw [fT];exact l);have Ug:=yh l;clear l;go_wp2_with fail;refine fk f λw5 jy dX=>?_;have qE:=dX.size;have g:Yh (B.ax w5 (more F w w5) p s Y.2 c/\aa F w w5):=⟨jy.mono (λk d=>by
     rcases d with (d|d)|d
     .exact .inl d
     .exact .inr ⟨by omega,by omega⟩
     .exact .inr ⟨by omega,d.2⟩) (cG (F:=F) (w:=w) ib.o (by omega)),((aa.ah F cN.o).trans q.o (λ_ h=> .inl h)).trans dX (λk d=>d.elim .inl (λh=> .inr (by omega)))⟩
    clear f jy dX;go_wp2;go_ret;have v:R=Y:=(by rw [D.o,I.o,aE Ug.o,aE Ug.o]);rw [v];exact⟨rfl,g.o⟩
  .obtain rfl:j=n:=(by omega);have f:=B.vg hd (by omega);have q:=yh fP;have m:R=(sbring S s a (eK j)).2.fl s:=(by rw [D.o,aA (λh=>h u)]);rw [<-m] at f;clear hd fP m u sB bm;go_wp2_with fail;refine fk f λw5 jy dX=>?_;have qE:=dX.size;have g:Yh (B.ax w5 (more F w w5) p s R.2 c/\aa F w w5):=⟨jy.mono (λk d=>by
    rcases d with d|d
    .exact .inl d
    .exact .inr ⟨by omega,by omega⟩) (cG (F:=F) (w:=w) ib.o (by omega)),((aa.ah F cN.o).trans q.o (λ_ h=> .inl h)).trans dX (λk d=>d.elim .inl (λh=> .inr (by omega)))⟩
   clear f jy dX;go_wp2;go_ret;exact⟨rfl,g.o⟩
namespace B
theorem RS (h:ax w F p s S cR) (f n:Nat) (L:f+2+n<=s) (N:n<=256) (aT:S.puts.length+400<=4000000000000):
  Calls prog 104 #[kw p f n] w λe w'=>e= .returned (iV (cK S s f n).1)/\ax w' (more F w w') p s (cK S s f n).2 cR/\aa F w w':=by
 obtain⟨O,l,D,x⟩:=cM h.ok.hi h.lt ((bi w.heap.size w).alloc (bP _) (.cells #[.pointer (some ⟨p,0,none⟩), .int .i64 f, .int .i64 n] 144)) ((h.boxed (.cells #[.pointer (some ⟨p,0,none⟩), .int .i64 f, .int .i64 n] 144)));have H:=D;clear h D;go_in;go_wp2_with (at_make;refine iH _ rfl _ _ rfl _ 512 512 rfl rfl ?c1 ?c2 ?c3 ?_);case c1=>rfl
 case c2=>omega
 case c3=>omega
 intro w1 aZ aq;have iB:=x.later aq;have dF:w1.heap[w.heap.size]? =some (.cells #[.pointer (some ⟨p,0,none⟩), .int .i64 f, .int .i64 n] 144 (0,0)):=(aq.block _ (by simp)).trans (heap_alloc_new _ _);obtain⟨ef,J,K,Rx⟩:=cM aZ.lt dF aZ iB;have cN:=(H.trans (aq.mono (by simp)));have z:(¬F w.heap.size/\¬F (w.heap.size+1)):=⟨λh=>by have:=l _ h;omega,λh=>by have:=l _ h;omega⟩;have c1:=bD dF;clear aZ aq iB dF;go_wp2;clear c1;go_loopw [4] (λi wr=>∃k:Nat,k<=n+2/\i=iV ((f+k:Nat):Int)/\(bA S s f k).1=0/\ax wr (more F w1 wr) p s (bA S s f k).2 cR/\aa F w1 wr) (λi _=>f+n+2-(intOf i).toNat);case atStart=>exact⟨0,dU _,by simp,rfl,Rx.more,aa.refl _ _⟩
 case round=>
  obtain⟨k,b,rfl,E,hd,fP⟩:=hrel;have dF:=(fP.block _ (by omega) z.1).trans J;have Aa:jX wr 5 (w.heap.size+1) (zs 512):=(fP.block _ (by omega) z.2).trans K;have A:=aL dF;have c1:=bD dF;have c2:=bH dF;obtain⟨G,y,sH,CP,t,u⟩:=kQ (FL p f n wr (by omega) (by omega) (by omega) (by omega)) E hd fP dF Aa;clear E hd fP dF Aa;go_wp2_with fail;refine bE G λM aW=>?_;have dF:=(aW.block _ (aw t)).trans t;have Aa:jX M 5 (w.heap.size+1) (zs 512):=(aW.block _ (aw u)).trans u;obtain⟨cC,gQ,ec,kO,uK⟩:=ey (sH.later aW) ((CP.trans (aa.ah (λ_=>False) aW) (λ_ h=>h.elim))) aW.size CP.size (pI S s f k);clear G aW A c1 c2;have A:=aL dF;by_cases q:k<n+2
  .have bm:((f+k:Nat):Int)<(f:Int)+2+(n:Int):=(by omega);have fJ:=Aa.src (o:=0) (n:=512) (by rw [bB];omega);rw [List.drop_zero,nh (by rw [bB];omega)] at fJ;have m:=D2 cC ((f+k:Nat):Int) (some ⟨w.heap.size+1,0,none⟩) 512 512 (zs 512) fJ (by omega);have C:bA S s f (k+1)=(bA S s f k).2.wr s ((f+k:Nat):Int) 512 (zs 512):=jm y;rw [<-C] at m;clear fJ C dF Aa cC;go_wp2_with fail;refine fk m λr c aV=>?_;have a:=(c.mono (λk b=>by rcases b with (b|b)|b;exact .inl b;exact .inr ⟨b.1,by have:=aV.size;omega⟩;exact .inr ⟨by omega,b.2⟩) (cG (F:=F) (w:=w1) (λk b=>by have:=l k b;omega) (by have:=aV.size;omega)):ax r (more F w1 r) p s (bA S s f (k+1)).2 cR);have Kc:=gQ.trans aV (λj a=>by rcases a with a|a;exact .inl a;exact .inr a.1);have Pp:=a;have I7:=Kc;clear c aV m a Kc;by_cases g:(bA S s f (k+1)).1=0
   .have d:((bA S s f (k+1)).1 == 0)=true:=(by rw [beq_iff_eq];exact g);have I:=g;clear g;go_wp2;go_roundw;case rel=>exact⟨k+1,by omega,by go_num,I,Pp,I7⟩
    case measure=>simp [intOf];omega
   .have d:((bA S s f (k+1)).1 == 0)=false:=(by rw [eG];exact g);have v:cK S s f n=bA S s f (k+1):=by
     have:bA S s f (n+2)=bA S s f (k+1):=gw g (n+2) (by omega);unfold cK;rw [this,aE g]
    clear g;go_wp2;go_ret;rw [v];exact⟨rfl,Pp.from (w:=w) l (by omega) I7.size,(aa.ah F cN).trans I7 (λ_ h=> .inl h)⟩
  .have bm:¬((f+k:Nat):Int)<(f:Int)+2+(n:Int):=(by omega);obtain rfl:k=n+2:=(by omega);have m:=vg cC (by omega);have v:cK S s f n=(bA S s f (n+2)).2.fl s:=by
    unfold cK;rw [aA (by have:=y;omega)]
   have N2:=v;clear v dF Aa cC;go_wp2_with fail;refine fk m λr c aV=>?_;have Pp:=((c.wide (λk b=>by have:=l k b;omega) kO (by have:=aV.size;omega):ax r (more F w1 r) p s ((bA S s f (n+2)).2.fl s).2 cR));have I7:=(gQ.trans aV (λj a=>by rcases a with a|a;exact .inl a;exact .inr a.1):aa F w1 r);clear c aV m;go_wp2;go_ret;rw [N2];exact⟨rfl,Pp.from (w:=w) l (by omega) I7.size,(aa.ah F cN).trans I7 (λ_ h=> .inl h)⟩
theorem Kw (h:ax w F p s S cR) (cZ:S.fC) (f n:Int) (aT:S.puts.length+500<=4000000000000):
  Calls prog 50 #[pQ p,iV f,iV n] w λe w'=>e= .returned (iV (cy S s f n).1)/\ax w' (more F w w') p s (cy S s f n).2 (cR+2)/\aa F w w':=by
 have C:=h.lt;have Dp:¬F w.heap.size:=λi=>by have:=h.lt _ i;omega
 have r:=(aI w (.cells #[.pointer (some ⟨p,0,none⟩), .int .i64 f, .int .i64 n] 144));have rl:(w.alloc (.cells #[.pointer (some ⟨p,0,none⟩), .int .i64 f, .int .i64 n] 144)).heap[w.heap.size]? =some (.cells #[.pointer (some ⟨p,0,none⟩), .int .i64 f, .int .i64 n] 144 (0,0)):=heap_alloc_new _ _;have wI:=h.boxed (.cells #[.pointer (some ⟨p,0,none⟩), .int .i64 f, .int .i64 n] 144);have i:=tI wI f n;have t:=wI;unfold cy;by_cases q:cq S s f n=0
 .rw [aA (by omega)];obtain⟨Y6,a,b,rfl,rfl,oz,aq,aW⟩:=fM q;rw [q] at i;simp only [Int.toNat_natCast];have H:=sm S.take s a b;have apG:S.take.puts.length=S.puts.length:=rfl;have CQ:=((cZ.take).QM s a b);have A:=(λm (cC:ax m F p s S.take cR)=>RS cC a b oz aW (by simpa [DS.take] using (show S.puts.length+400<=4000000000000 by omega)));generalize cK S.take s a b=Y at*;by_cases k:Y.1=0
  .rw [aA (λh=>h k)];have d:(Y.1 == 0)=true:=(by rw [beq_iff_eq];exact k);go_in;go_wp2_with fail;refine bE i λw1 c=>?_;have jA:w1.heap[w.heap.size]? =_:=(c.block _ (by simp)).trans rl;go_wp2_with fail;refine(zB (t.later c)).mono ?_;rintro e m ⟨rfl,cC,aX⟩;have l8:=ew jA aX Dp;have u:=aL l8;have v:=bD l8;have x:=bH l8;have gQ:=((aa.ah F (r.trans (c.mono (by simp)))).trans aX (λ_ h=> .inl h));go_wp2_with fail;refine(A m cC).mono ?_;rintro e z ⟨rfl,g,aV⟩;have tB:=ew l8 aV Dp;obtain⟨u,v,x,ma,ec,kO⟩:=kQ (aL tB) (bD tB) (bH tB) ((gQ.trans aV (λ_ h=> .inl h))) gQ.size aV.size;have D:=Kj g a b 1 0 (by omega) (by omega) (by omega) (by omega) (CQ.now a) (CQ.now (a+1));rw [show ((1:Nat):Int)*4294967296+((0:Nat):Int)=4294967296 by decide] at D;go_wp2_with fail;refine fk D λE y dV=>?_;have vS:=dV.size;have G:=(aF ((y.mono (λk l=>by
    rcases l with (l|l)|l
    .exact .inl l
    .exact .inr ⟨by omega,by omega⟩
    .exact .inr ⟨by omega,l.2⟩) (cG (F:=F) (w:=w) C (by omega)):ax E (more F w E) p s _ (cR+2))) (ma.trans dV (λj o=>by
    rcases o with o|o
    .exact .inl o
    .exact .inr (by omega))))
   go_wp2;go_ret;exact⟨rfl,G⟩
  .rw [aE k];have d:(Y.1 == 0)=false:=(by rw [eG];exact k);go_in;go_wp2_with fail;refine bE i λw1 c=>?_;have jA:w1.heap[w.heap.size]? =_:=(c.block _ (by simp)).trans rl;go_wp2_with fail;refine(zB (t.later c)).mono ?_;rintro e m ⟨rfl,cC,aX⟩;have l8:=ew jA aX Dp;have u:=aL l8;have v:=bD l8;have x:=bH l8;have gQ:=((aa.ah F (r.trans (c.mono (by simp)))).trans aX (λ_ h=> .inl h));go_wp2_with fail;refine(A m cC).mono ?_;rintro e z ⟨rfl,g,aV⟩;have tB:=ew l8 aV Dp;have u:=aL tB;have v:=bD tB;have x:=bH tB;go_wp2;go_ret;exact⟨rfl,aF (((g.from C gQ.size aV.size).le (by omega):ax z (more F w z) p s Y.2 (cR+2))) (gQ.trans aV (λ_ h=> .inl h))⟩
 .rw [aE q];have d:(cq S s f n == 0)=false:=by rw [eG];exact q
  generalize cq S s f n=U at*;go_in;go_wp2_with fail;refine bE i λw1 c=>?_;go_wp2;go_ret;exact⟨rfl,(aF (((t.later c).more (w:=w)).le (by omega:cR<=cR+2)) (aa.ah F (r.trans (c.mono (by simp)))))⟩
end B
theorem oB (m:Nat):Builtin.zeroCells (Value.int .u8 0).cells m=(bs (List.replicate m 0)).toArray:=by
 apply Array.ext';apply List.ext_getElem
 .simp [Builtin.zeroCells,bs,Value.cells]
 .intro i a b;simp [Builtin.zeroCells,bs,Nat.mod_one,Value.cells]
theorem Ea (w:World) (base:Nat) (C:TypeId) (v:Value) (n:Nat) (l:List Int) (m:Nat) (az:w.ownsRow base 5 1 v n (bs l)) (D:n+m<=1000000) (Ac:base<=w.heap.size) (uY:0<n+m):
  ∃g c w',(Builtin.append_ #[36,3] C #[v,iV (m:Int)]).run prog w= .ok (.slice (some (aD g 0)) (n+m) c) w'/\
   w'.ownsRow base 5 1 (.slice (some (aD g 0)) (n+m) c) (n+m) (bs (l ++ List.replicate m 0))/\w.grownBy w' v.ownBlock:=by
 obtain⟨i,q,gv,dr,ec⟩:=info_parts fW;have jT:(bs l).length=n:=by simpa using az.1
 have N3:l.length=n:=by simpa [bs] using jT
 have xL:IntKind.i64.wrap (m:Int)=(m:Int):=by rw [IntKind.wrap_i64];omega
 have h0:¬(m:Int)<0:=by omega
 have d:¬(281474976710656<(m:Int)):=by omega
 have j:∀w,(asInt (iV (m:Int))).run prog w= .ok (m:Int) w:=λ_=>rfl;have kv:(bs (l ++ List.replicate m 0))=bs l ++ bs (List.replicate m 0):=by simp [bs]
 have b:∀(old:Nat) (row:Option Nat),
     (w.drew.alloc (.cells ((bs l).toArray ++ (bs (List.replicate m 0)).toArray ++ Builtin.zeroCells (Value.int .u8 0).cells (grownCap w (n+m) old 5-(n+m))) 5)).ownsRow base 5 1
      (.slice (some (aD w.heap.size 0)) (n+m) (grownCap w (n+m) old 5)) (n+m) (bs (l ++ List.replicate m 0))/\
   w.grownBy (w.drew.alloc (.cells ((bs l).toArray ++ (bs (List.replicate m 0)).toArray ++ Builtin.zeroCells (Value.int .u8 0).cells (grownCap w (n+m) old 5-(n+m))) 5)) row:=by
  intro old row;have vQ:=grownCap_ge w (n+m) old 5;have D4:=grownCap_le_maxLen w (n+m) old 5 (by unfold maxLen;omega);refine⟨⟨by simp [bs,N3], .inr ⟨w.heap.size,_,_,rfl,Ac,heap_alloc_new w.drew _,vQ,D4,?_,?_⟩⟩,⟨rfl,rfl,rfl,by simp,λk s _=>heap_alloc_old w.drew _ s⟩⟩
  .rw [oB];simp [bs,N3];omega
  .rw [kv];simp only [Array.toList_append,Nat.mul_one];exact List.take_left' (by simp [bs,N3])
 rcases az.2 with ⟨rfl,rfl⟩|⟨g,a,cur,rfl,vm,z,XA,D4,nY,adB⟩
 .have vJ:=List.eq_nil_of_length_eq_zero N3;subst vJ;have ZI:m≠0:=by omega
  have r:¬(281474976710656<Builtin.nextslicecap m 0):=by rw [nextslicecap_zero (by omega)];omega
  obtain⟨o,p⟩:=b 0 (Value.ownBlock (.slice none 0 0));simp only [Nat.zero_add] at o p⊢;refine⟨w.heap.size,_,_,?_,o,p⟩;have f:¬9223372036854775807<(m:Int):=by omega
  simp [Builtin.append_,j,sizeOf,typeInfo,zeroValue,q,gv,dr,ec,xL,h0,d,ZI,r,f,Question.forced,run_firstCells_none,newRow,grownCap,oB]
 .have apH:cur.size=a:=by simpa using nY
  have t:cur.toList.take n=bs l:=by simpa using adB
  by_cases ZI:m=0
  .subst ZI;have ai3:∀w,(asInt (iV 0)).run prog w= .ok 0 w:=λ_=>rfl;have ai4:IntKind.i64.wrap 0=0:=(by decide);have bt:(storeCells (aD g n) []).run prog w= .ok () w:=rfl;refine⟨g,a,w,?_,by simpa using az,⟨rfl,rfl,rfl,bP _,λ_ _ _=>rfl⟩⟩;simp [Builtin.append_,ai3,sizeOf,typeInfo,q,dr,ec,ai4,XA,Addr.add_lit,bt]
  by_cases rL:n+m<=a
  .refine⟨g,a,w.setRow g (cur.toList.take n ++ bs (List.replicate m 0) ++ cur.toList.drop (n+m)).toArray,?_,⟨by simp [bs,N3], .inr ⟨g,a,_,rfl,vm,setRow_heap w g cur _ 5 _ z,rL,D4,?_,?_⟩⟩,⟨rfl,rfl,rfl,by simp,λk _ s=>setRow_other w g k _ (λe=>s (by simp [Value.ownBlock,e]))⟩⟩
   .have bt:=run_storeCells_at prog g n 5 (bs (List.replicate m 0)) 0 cur w z (by simp [bs];omega) (by intro u A;obtain⟨x,_,rfl⟩:=List.mem_map.1 A;rfl);simp only [Nat.add_zero] at bt;have BA:(bs (List.replicate m 0)).length=m:=(by simp [bs]);rw [BA] at bt;have y:(Builtin.zeroCells (Value.int .u8 0).cells m).toList=bs (List.replicate m 0):=(by rw [oB]);simp [Builtin.append_,j,sizeOf,typeInfo,zeroValue,q,gv,dr,ec,xL,h0,d,ZI,rL,Addr.add_lit];rw [y,bt];simp [bs]
   .simp [bs];omega
   .rw [t,kv];exact List.take_left' (by simp [bs,N3])
  .have IU:a<n+m:=(by omega);have r:¬(281474976710656<Builtin.nextslicecap (n+m) a):=(by have:=growslice_fits (need:=n+m) (old:=a) (bytes:=1) (by omega) (by omega);omega);obtain⟨o,p⟩:=b a (Value.ownBlock (.slice (some (aD g 0)) n a));refine⟨w.heap.size,_,_,?_,o,p⟩;have f:¬9223372036854775807<(n:Int)+(m:Int):=(by omega);simp [Builtin.append_,j,sizeOf,typeInfo,zeroValue,q,gv,dr,ec,xL,h0,d,ZI,rL,r,f,Question.forced,(run_firstCells_some (P:=prog) w.drew 1 n (aD g 0) n a (bs l) (by omega) (by simpa using (az.cells (g:=g) rfl))),newRow,grownCap,oB]
theorem vo:∀k m,leb (k+1) m=leb k m ++ [((m / 256 ^ k%256:Nat):Int)]
 |0,m=>by simp [leb]
 |k+1,m=>by
  rw [leb,vo k (m / 256),leb];simp [Nat.div_div_eq_div_mul,Nat.pow_succ,Nat.mul_comm]
theorem oC:∀k m,Bytes (leb k m)
 |0,_=>by intro x a;cases a
 |k+1,m=>by
  intro x a;rcases List.mem_cons.1 a with rfl|a
  .omega
  .exact oC k _ x a
def vp (w:World) (B p:Nat) (l:List Int):Prop:=
 B<=p/\B<=w.heap.size/\∃v,w.heap[p]? =some (.cells #[v] 140 (0,0))/\w.ownsRow B 5 1 v l.length (bs l)/\v.ownBlock≠some p
theorem vp.put {B:Nat} {a:List Int} (i:B<=p) (b:B<=w.heap.size) (f:w.heap[p]? =some (.cells #[v] 140 (0,0))) (l:v.ownBlock≠some p) (bm:∀k,v.ownBlock=some k->B<=k)
    (aO:w.grownBy w1 v.ownBlock) (az:w1.ownsRow B 5 1 (.slice (some (aD g 0)) a.length c) a.length (bs a)):
  w1.cell? (aD p 0)=some v/\w1.frozen? (aD p 0)=false/\vp (w1.setCell ⟨p,0,none⟩ (.slice (some ⟨g,0,none⟩) a.length c)) B p a/\Below B w (w1.setCell ⟨p,0,none⟩ (.slice (some ⟨g,0,none⟩) a.length c)):=by
 have oY:=(aO.block p ((kN.1 f).1) (λe=>l e.symm)).trans f;have d:g≠p:=by
  obtain⟨o,c',n,_,m,_⟩:=ay.eW az (by simp);cases n;exact m.ne oY (by decide)
 refine⟨aj oY rfl,ae oY 0,⟨i,?_,_,heap_setCell_same _ _ _ _ _ _ oY,?_,?_⟩,?_⟩
 .simp [World.setCell];exact jQ b aO.size
 .exact az.kept (mH w1 ⟨p,0,none⟩ _) (.inr (by simpa [Value.ownBlock] using d))
 .simpa [Value.ownBlock] using d
 .exact((bi _ w).grown aO b (λk e=>bm k e)).trans ((aa.setCell (F:=λj=>j=p) (p:=⟨p,0,none⟩) w1 rfl _).below (λj q=>by omega) (jQ b aO.size))
theorem mA (p B:Nat) (l:List Int) (m a:Nat) (w:World) (h:vp w B p l) (O:l.length+a<=100000) (P:m<=9223372036854775807):
  Calls prog 100 #[pQ p,iV (m:Int),iV (a:Int)] w λe w'=>e= .returned (.tuple #[])/\vp w' B p (l ++ leb a m)/\Below B w w':=by
 obtain⟨M,J,gv,dr,ec⟩:=info_parts fW;have H:=h;clear h;go_in;go_wp2;go_loopw [1,7] (λr i wr=>∃k:Nat,k<=a/\i=iV k/\r=iV ((m / 256 ^ k:Nat):Int)/\vp wr B p (l ++ leb k m)/\Below B w wr) (λ_ i _=>a-(intOf i).toNat);case atStart=>exact⟨0,dU _,rfl,by simp,by simpa [leb] using H,bi _ _⟩
 case round=>
  obtain⟨k,N,rfl,rfl,ic,dO⟩:=hrel;by_cases bm:k<a
  .have cw:(k:Int)<(a:Int):=(by omega);obtain⟨F,L,v,j,az,A⟩:=ic;have du:=aL j;have b:(l ++ leb k m).length=l.length+k:=(by simp [aH]);rw [b] at az;have x:m / 256 ^ (k+1)=m / 256 ^ k / 256:=(by rw [Nat.div_div_eq_div_mul,Nat.pow_succ]);have y:=vo k m;generalize G:m / 256 ^ k=Q at*;obtain⟨bq,d,s,t,Pb,LT⟩:=kQ az j dO A x y;clear az j dO A G x y;go_wp2_with (at_builtin;refine wpList_append_own _ rfl _ _ 36 rfl B 5 M (.int .u8 0) 1 1 underlying36 J gv dr ec rfl (by decide) _ _ _ rfl (bq.alloc _) (aD wr.heap.size 0) 1 1 [.int .u8 ((Q:Int)%256)] rfl rfl ?n1 ?n2 ?n3 ?n4 ?n5 ?_);case n1=>exact cell_one_new _ _ _
   case n2=>intro u C;simp at C;subst C;rfl
   case n3=>unfold maxLen;omega
   case n4=>omega
   case n5=>simp;omega
   intro T w1 cJ kU jx;obtain⟨g,c,rfl,I,K,BA⟩:=ay.eW cJ jx;have z:List.map (Value.int .u8) l ++ (List.map (Value.int .u8) (leb k m) ++ [.int .u8 ((Q:Int)%256)])=bs (l ++ leb (k+1) m):=by
    rw [LT];simp [bs]
   have f:l.length+k+1=(l ++ leb (k+1) m).length:=(by simp [aH];omega);rw [z,f] at cJ;have n:B<=(wr.alloc (.cells #[.int .u8 ((Q:Int)%256)] 5)).heap.size:=(by simp;omega);have pf:=(kN.1 d).1;obtain⟨R,S,o,q⟩:=vp.put F n ((Below.heap_alloc _ _ _ pf).trans d) t (λk e=>(bq.lt k e).1) kU cJ;rw [<-f] at o q;have E:=(aF o (((s.alloc L _).trans q)));clear cJ kU jx K I z f o q bq d s t LT;go_wp2;go_roundw;case rel=>exact⟨k+1,by omega,by go_num,by rw [Pb];simp,E⟩
   case measure=>simp [intOf];omega
  .have cw:¬(k:Int)<(a:Int):=(by omega);have oU:k=a:=(by omega);subst oU;have D:=(aF ic dO);clear ic dO;go_wp2
   go_end0
   exact⟨rfl,D⟩
def Pq (s:ByteArray):List Int:=s.data.toList.map (λb=>(b.toNat:Int))
theorem VO (s:ByteArray):(Pq s).length=s.size:=by simp [Pq]
theorem N4 (s:ByteArray):Lib.strCells s=bs (Pq s):=by simp [Lib.strCells,bs,Pq]
theorem N5 (p B:Nat) (l:List Int) (s:ByteArray) (w:World) (h:vp w B p l) (D:0<s.size) (C:l.length+s.size<=100000):
  Calls prog 99 #[pQ p, .string s] w λe w'=>e= .returned (.tuple #[])/\vp w' B p (l ++ Pq s)/\Below B w w':=by
 obtain⟨z,x,gv,dr,ec⟩:=info_parts fW;obtain⟨t,q,v,b,az,n⟩:=h;obtain⟨du,bq,j,i⟩:=cM (aL b) az b n;clear az b n;go_in;go_wp2_with (at_builtin;refine Lib.wpList_append_own_string _ rfl _ _ 36 9 rfl B 5 z underlying36 underlying9 x gv dr ec _ _ _ rfl bq s rfl ?n3 ?n4 ?n5 ?_);case n3=>unfold maxLen;omega
 case n4=>omega
 case n5=>exact q
 intro A w1 cJ kU jx;have o:A≠ .slice none 0 0:=by rintro rfl;rcases cJ.2 with ⟨_,h⟩|⟨_,_,_,h,_⟩;omega;cases h
 obtain⟨g,c,rfl,u,y,BA⟩:=ay.eW cJ o;rw [N4] at cJ;have m:bs l ++ bs (Pq s)=bs (l ++ Pq s):=by simp [bs]
 have a:l.length+s.size=(l ++ Pq s).length:=by simp [VO]
 rw [m,a] at cJ;obtain⟨E,F,d,f⟩:=vp.put t q j i (λk e=>(bq.lt k e).1) kU cJ;rw [<-a] at d f;have r:=(aF d f);clear cJ kU jx y u m a d f bq j i o BA;go_wp2
 go_end0
 exact⟨rfl,r⟩
theorem Kx {b:Array Oper} {o:Oper} {a:Act} {K:Act->World->Prop} {Q:Exit->Act->World->Prop} {E:Prop}
    (e:o.guard=none) (s x:Operand) (l7:o.op=Op.call {callee:=Callee.builtin Builtin.append,args:= #[s,x],argTypes:= #[36,3]})
    (base:Nat) (v:Value) (n:Nat) (l:List Int) (m:Nat) (i:a.eval s=v) (k:a.eval x=iV (m:Int)) (az:w.ownsRow base 5 1 v n (bs l)) (f:n+m<=1000000) (Ac:base<=w.heap.size) (uY:0<n+m)
    (d:∀g c w',w'.ownsRow base 5 1 (.slice (some (aD g 0)) (n+m) c) (n+m) (bs (l ++ List.replicate m 0))->w.grownBy w' v.ownBlock->K (a.put o.dst (.slice (some (aD g 0)) (n+m) c)) w'):
  if Region.wanted o (yielded b a.tmps)=true then Oper.wp prog o a w K Q else E:=by
 have j:Region.wanted o (yielded b a.tmps)=true:=by simp [Region.wanted,e]
 rw [aE j];obtain⟨g,c,w',bC,p,q⟩:=Ea w base o.type v n l m az f Ac uY;unfold Oper.wp;simp [execOp,l7,resolve,invoke,builtin,i,k,bC,Result.andThen];exact d g c w' p q
theorem Ky (p B:Nat) (l:List Int) (m:Nat) (w:World) (h:vp w B p l) (vJ:0<l.length) (A:l.length+m<=100000):
  Calls prog 101 #[pQ p,iV ((l.length+m:Nat):Int)] w λe w'=>e= .returned (.tuple #[])/\vp w' B p (l ++ List.replicate m 0)/\Below B w w':=by
 obtain⟨s,o,v,n,az,x⟩:=h;obtain⟨g,c,y,u,C,_⟩:=ay.eW az (by rintro rfl;rcases az.2 with ⟨_,h⟩|⟨_,_,_,h,_⟩;omega;cases h);subst y;have du:=aL n;have j7:w.drew.ownsRow B 5 1 (.slice (some (aD g 0)) l.length c) l.length (bs l):=az;have adC:((l.length+m:Nat):Int)-(l.length:Int)=(m:Int):=by omega
 have ai5:∀{f d:Nat} {a:World},a.ownsRow B 5 1 (.slice (some (aD f 0)) (l.length+m) d) (l.length+m) (bs (l ++ List.replicate m 0))->w.drew.grownBy a (Value.ownBlock (.slice (some (aD g 0)) l.length c))->
   a.cell? (aD p 0)=some (.slice (some (aD g 0)) l.length c)/\a.frozen? (aD p 0)=false/\Yh (vp (a.setCell ⟨p,0,none⟩ (.slice (some ⟨f,0,none⟩) (l.length+m) d)) B p (l ++ List.replicate m 0)/\Below B w (a.setCell ⟨p,0,none⟩ (.slice (some ⟨f,0,none⟩) (l.length+m) d))):=by
  intro f d a fE jU;have j:l.length+m=(l ++ List.replicate m (0:Int)).length:=by simp
  rw [j] at fE;obtain⟨q,r,i,b⟩:=vp.put (w:=w.drew) s o n x (λk e=>(az.lt k e).1) jU fE;rw [<-j] at i b;exact⟨q,r,i,⟨b.os,b.tape,b.output,b.size,b.block⟩⟩
 have z:IntKind.i64.wrap (m:Int)=(m:Int):=by rw [IntKind.wrap_i64];omega
 generalize t:l.length+m=N at*;go_in;go_wp2
 go_region_law
  (first
   |(refine Kx (by rfl) _ _ (by rfl) B (.slice (some (aD g 0)) l.length c) l.length l m (by rfl) (by rfl) (yh j7).out (by omega) o (by omega) ?_;intro f d a fE jU;obtain⟨q,r,i⟩:=ai5 (t▸fE) jU))
 all_goals
  go_end0
  exact⟨rfl,i.out⟩
def vq (s l n:Int):Prop:=(18<=l/\l<=256)/\(4<=n/\n<=1024)/\n%4=0/\(l+n / 4+6<=s/\s<=2048)
def xN (s l n:Int) (v:Value) (x:Int):Prop:=
   (vq s l n/\v= .agg #[iV l,iV (3+l),iV (s-(3+l)),iV n,iV (2+n / 4)]/\x=0)\/(¬vq s l n/\v= .agg #[iV 0,iV 0,iV 0,iV 0,iV 0]/\x=22)
theorem bY (w:World) (a b:Obj):bW w ((w.alloc a).alloc b):=Below.alloc (Below.alloc (bi _ _) (bP _) _) (by simp) _
theorem qS (s l n:Int) (w:World) (c:18<=l) (d:l<=256) (f:4<=n) (g:n<=1024) (a:n%4=0) (s1:l+n / 4+6<=s) (s2:s<=2048):
  Calls prog 98 #[.agg #[iV s,iV l,iV n]] w λe w'=>e= .returned (.tuple #[.agg #[iV l,iV (3+l),iV (s-(3+l)),iV n,iV (2+n / 4)],iV 0])/\bW w w':=by
 have b:n.tmod 4=n%4:=Int.tmod_eq_emod_of_nonneg (by omega);have hd:n.tdiv 4=n / 4:=Int.tdiv_eq_ediv_of_nonneg (by omega);have s3:3+l+(2+n / 4)+1<=s:=by omega
 go_in;go_wp2;refine bodyPost_ret (v:= .tuple #[.agg #[iV l,iV (3+l),iV (s-(3+l)),iV n,iV (2+n / 4)],iV 0]) (by simp [results,results98,go_sem]) rfl ⟨rfl,bY w _ _⟩
theorem N6 (s l n:Int) (w:World) (h:¬(18<=l/\l<=256)):
  Calls prog 98 #[.agg #[iV s,iV l,iV n]] w λe w'=>e= .returned (.tuple #[.agg #[iV 0,iV 0,iV 0,iV 0,iV 0],iV 22])/\bW w w':=by
 by_cases a:18<=l
 .have b:¬l<=256:=by omega
  go_in;go_wp2;exact bodyPost_ret (v:= .tuple #[.agg #[iV 0,iV 0,iV 0,iV 0,iV 0],iV 22]) (by simp [results,results98,go_sem]) rfl ⟨rfl,bY w _ _⟩
 .have c:l<18:=by omega
  go_in;go_wp2;exact bodyPost_ret (v:= .tuple #[.agg #[iV 0,iV 0,iV 0,iV 0,iV 0],iV 22]) (by simp [results,results98,go_sem]) rfl ⟨rfl,bY w _ _⟩
theorem N7 (s l n:Int) (w:World) (d:18<=l) (f:l<=256) (h:¬(4<=n/\n<=1024)):
  Calls prog 98 #[.agg #[iV s,iV l,iV n]] w λe w'=>e= .returned (.tuple #[.agg #[iV 0,iV 0,iV 0,iV 0,iV 0],iV 22])/\bW w w':=by
 by_cases a:4<=n
 .have b:¬n<=1024:=by omega
  go_in;go_wp2;exact bodyPost_ret (v:= .tuple #[.agg #[iV 0,iV 0,iV 0,iV 0,iV 0],iV 22]) (by simp [results,results98,go_sem]) rfl ⟨rfl,bY w _ _⟩
 .have c:n<4:=by omega
  go_in;go_wp2;exact bodyPost_ret (v:= .tuple #[.agg #[iV 0,iV 0,iV 0,iV 0,iV 0],iV 22]) (by simp [results,results98,go_sem]) rfl ⟨rfl,bY w _ _⟩
theorem N8 (s l n:Int) (w:World) (c:18<=l) (d:l<=256) (f:4<=n) (g:n<=1024) (h:¬n%4=0):
  Calls prog 98 #[.agg #[iV s,iV l,iV n]] w λe w'=>e= .returned (.tuple #[.agg #[iV 0,iV 0,iV 0,iV 0,iV 0],iV 22])/\bW w w':=by
 have b:n.tmod 4=n%4:=Int.tmod_eq_emod_of_nonneg (by omega);have a:(n%4 != 0)=true:=by rw [fT];exact h
 go_in;go_wp2;exact bodyPost_ret (v:= .tuple #[.agg #[iV 0,iV 0,iV 0,iV 0,iV 0],iV 22]) (by simp [results,results98,go_sem]) rfl ⟨rfl,bY w _ _⟩
theorem N9 (s l n:Int) (w:World) (g:18<=l) (i:l<=256) (j:4<=n) (k:n<=1024) (c:n%4=0) (h:¬(l+n / 4+6<=s/\s<=2048)):
  Calls prog 98 #[.agg #[iV s,iV l,iV n]] w λe w'=>e= .returned (.tuple #[.agg #[iV 0,iV 0,iV 0,iV 0,iV 0],iV 22])/\bW w w':=by
 have f:n.tmod 4=n%4:=Int.tmod_eq_emod_of_nonneg (by omega);have hd:n.tdiv 4=n / 4:=Int.tdiv_eq_ediv_of_nonneg (by omega);by_cases b:3+l+(2+n / 4)+1<=s
 .have a:¬s<=2048:=by omega
  go_in;go_wp2;exact bodyPost_ret (v:= .tuple #[.agg #[iV 0,iV 0,iV 0,iV 0,iV 0],iV 22]) (by simp [results,results98,go_sem]) rfl ⟨rfl,bY w _ _⟩
 .have d:s<3+l+(2+n / 4)+1:=by omega
  by_cases a:2048<s
  .omega
  .clear h;go_in;go_wp2;exact bodyPost_ret (v:= .tuple #[.agg #[iV 0,iV 0,iV 0,iV 0,iV 0],iV 22]) (by simp [results,results98,go_sem]) rfl ⟨rfl,bY w _ _⟩
theorem GO (s l n:Int) (w:World):
  Calls prog 98 #[.agg #[iV s,iV l,iV n]] w λe w'=>∃v x,e= .returned (.tuple #[v,iV x])/\xN s l n v x/\bW w w':=by
 have b:¬vq s l n->∀(e:Ending) (w':World),(e= .returned (.tuple #[.agg #[iV 0,iV 0,iV 0,iV 0,iV 0],iV 22])/\bW w w')->∃v x,e= .returned (.tuple #[v,iV x])/\xN s l n v x/\bW w w':=
  λi e w' h=>⟨_,_,h.1, .inr ⟨i,rfl,rfl⟩,h.2⟩
 by_cases a:18<=l/\l<=256
 .by_cases c:4<=n/\n<=1024
  .by_cases d:n%4=0
   .by_cases f:l+n / 4+6<=s/\s<=2048
    .exact(qS s l n w a.1 a.2 c.1 c.2 d f.1 f.2).mono (λe w' h=>⟨_,_,h.1, .inl ⟨⟨a,c,d,f⟩,rfl,rfl⟩,h.2⟩)
    .exact(N9 s l n w a.1 a.2 c.1 c.2 d f).mono (b (λg=>f g.2.2.2))
   .exact(N8 s l n w a.1 a.2 c.1 c.2 d).mono (b (λg=>d g.2.2.1))
  .exact(N7 s l n w a.1 a.2 c).mono (b (λg=>c g.2.1))
 .exact(N6 s l n w a).mono (b (λg=>a g.1))
theorem vp.lI {B:Nat} (h:vp w B p l) (a:bW w w'):vp w' B p l:=by
 obtain⟨c,f,v,b,az,e⟩:=h;exact⟨c,jQ f a.size,v,(a.block p ((kN.1 b).1)).trans b,az.kept (row:=none) ⟨a.os,a.tape,a.output,a.size,λk d _=>a.block k d⟩ (by cases g:v.ownBlock <;> simp),e⟩
theorem vp.new (w:World):vp (w.alloc (.cells #[.slice none 0 0] 140)) w.heap.size w.heap.size []:=
   ⟨bP _,by simp,_,heap_alloc_new w _,World.ownsRow_nil _ _ _ _,by simp [Value.ownBlock]⟩
theorem vp.row {B:Nat} (h:vp w B p l) (h0:0<l.length):∃g c,w.cell? (aD p 0)=some (.slice (some (aD g 0)) l.length c)/\B<=g/\ay w 5 g c (bs l):=by
 obtain⟨f,j,v,b,az,i⟩:=h;obtain⟨g,c,e,a,d,_⟩:=ay.eW az (by rintro rfl;rcases az.2 with ⟨_,h⟩|⟨_,_,_,h,_⟩;omega;cases h);subst e;exact⟨g,c,aj b rfl,a,d⟩
def eR (l:List Int):List Int:=l ++ leb 4 (sumOf l)
theorem oD (l:List Int):(eR l).length=l.length+4:=by simp [eR,aH]
theorem GP (p B:Nat) (l:List Int) (w:World) (h:vp w B p l) (h0:0<l.length) (m:l.length+4<=100000) (d:Bytes l):
  Calls prog 102 #[pQ p] w λe w'=>∃g c,e= .returned (.slice (some (aD g 0)) (l.length+4) c)/\B<=g/\ay w' 5 g c (bs (eR l))/\Below B w w':=by
 obtain⟨g,c,du,q,n⟩:=h.row h0;have o:=h.2.1;have FP:=xx (some (aD g 0)) l.length c l w d (by omega) n.src;have r:=ng d;have k:=(show eR l=l ++ leb 4 (sumOf l) from rfl);generalize sumOf l=S at*;go_in;go_wp2_with fail;refine bE FP λw1 aq=>?_;have dP:Calls prog 100 #[pQ p,iV (S:Int),iV 4] w1 λe w'=>e= .returned (.tuple #[])/\vp w' B p (l ++ leb 4 S)/\Below B w1 w':=mA p B l S 4 w1 (h.lI aq) m (by omega);have cN:=aq.mono o;go_wp2_with fail;refine fk dP λf uL aW=>?_;obtain⟨a,b,ZJ,fU,fb⟩:=uL.row (by simp [aH]);have j:(l ++ leb 4 S).length=l.length+4:=by simp [aH]
 rw [j] at ZJ;have i:(B<=a/\ay f 5 a b (bs (eR l))/\Below B w f):=⟨fU,by rw [k];exact fb,cN.trans aW⟩;go_wp2;go_ret;exact⟨a,b,rfl,i⟩
def XM:ByteArray:=⟨#[118,101,108,108,117,109,0,1]⟩
def gq:List Int:= [118,101,108,108,117,109,0,1]
theorem RT:Pq XM=gq:=by decide+kernel
def bM (s l n:Nat):List Int:=gq ++ leb 4 s ++ leb 4 l ++ leb 4 n ++ List.replicate 488 0
theorem dD (s l n:Nat):(bM s l n).length=508:=by simp only [bM,gq,dT,aH,List.length_replicate,List.length_cons,List.length_nil]
theorem gM (s l n:Nat):Bytes (bM s l n):=by
 intro x a;simp only [bM,List.mem_append] at a;rcases a with (((h|h)|h)|h)|h
 .simp [gq] at h;omega
 .exact oC _ _ x h
 .exact oC _ _ x h
 .exact oC _ _ x h
 .have:=List.eq_of_mem_replicate h;omega
def Made (w w':World) (v:Value) (l:List Int):Prop:=∃g c,v= .slice (some (aD g 0)) l.length c/\w.heap.size<=g/\ay w' 5 g c (bs l)/\bW w w'
theorem GQ (s l n:Nat) (w:World) (j:vq s l n):
  Calls prog 46 #[.agg #[iV (s:Int),iV (l:Int),iV (n:Int)]] w λe w'=>∃v,e= .returned (.tuple #[v,iV 0])/\Made w w' v (eR (bM s l n)):=by
 obtain⟨⟨r,t⟩,⟨u,x⟩,p,s1,s2⟩:=j;go_in;go_wp2_with fail;refine((λw=>qS s l n w r t u x p s1 s2) _).mono ?_;rintro e w1 ⟨rfl,aq⟩;have bK:=((bi _ w).alloc (bP _) _).trans (aq.mono (by simp));have k:w1.heap[w.heap.size]? =some (.cells #[.int .i64 (s:Int), .int .i64 (l:Int), .int .i64 (n:Int)] 39 (0,0)):=(aq.block _ (by simp)).trans (heap_alloc_new _ _);have A5:=(kN.1 k).1;have zz:=λo=>by have:=vp.new (w1.alloc o);simpa using this
 have a:∀o,bW w ((w1.alloc o).alloc (.cells #[.slice none 0 0] 140))/\((w1.alloc o).alloc (.cells #[.slice none 0 0] 140)).heap[w.heap.size]? =some (.cells #[.int .i64 (s:Int), .int .i64 (l:Int), .int .i64 (n:Int)] 39 (0,0)):=λo=>
    ⟨(bK.alloc (by omega) _).alloc (by simp;omega) _,(Below.heap_alloc _ _ _ (by simp;omega)).trans ((Below.heap_alloc _ _ _ A5).trans k)⟩
 have bm:w.heap.size<w1.heap.size+1:=by omega
 go_wp2_with fail;refine((λo=>N5 (w1.heap.size+1) (w1.heap.size+1) [] XM _ (zz o) (by decide) (by decide)) _).mono ?_;rintro e d ⟨rfl,uL,aW⟩;obtain⟨eM,qC⟩:bW w d/\d.heap[w.heap.size]? =some (.cells #[.int .i64 (s:Int), .int .i64 (l:Int), .int .i64 (n:Int)] 39 (0,0)):=⟨(a _).1.trans (aW.mono (by omega)),(aW.block _ bm).trans (a _).2⟩;rw [RT,List.nil_append] at uL;have A:=aL qC;have mg:Calls prog 100 #[.pointer (some ⟨w1.heap.size+1,0,none⟩),iV (s:Int),iV 4] d λe w'=>e= .returned (.tuple #[])/\vp w' (w1.heap.size+1) (w1.heap.size+1) (gq ++ leb 4 s)/\Below (w1.heap.size+1) d w':=mA _ _ _ s 4 d uL (by decide) (by omega);go_wp2_with fail;refine fk mg λf ai6 bz=>?_;obtain⟨jK,NY⟩:bW w f/\f.heap[w.heap.size]? =some (.cells #[.int .i64 (s:Int), .int .i64 (l:Int), .int .i64 (n:Int)] 39 (0,0)):=⟨eM.trans (bz.mono (by omega)),(bz.block _ bm).trans qC⟩;have C:=bD NY;have xA:Calls prog 100 #[.pointer (some ⟨w1.heap.size+1,0,none⟩),iV (l:Int),iV 4] f λe w'=>e= .returned (.tuple #[])/\vp w' (w1.heap.size+1) (w1.heap.size+1) (gq ++ leb 4 s ++ leb 4 l)/\Below (w1.heap.size+1) f w':=mA _ _ _ l 4 f ai6 (by rw [dT,aH];decide) (by omega);go_wp2_with fail;refine fk xA λi DV fe=>?_;obtain⟨sW,Oa⟩:bW w i/\i.heap[w.heap.size]? =some (.cells #[.int .i64 (s:Int), .int .i64 (l:Int), .int .i64 (n:Int)] 39 (0,0)):=⟨jK.trans (fe.mono (by omega)),(fe.block _ bm).trans NY⟩;have D:=bH Oa;have ZB:Calls prog 100 #[.pointer (some ⟨w1.heap.size+1,0,none⟩),iV (n:Int),iV 4] i λe w'=>e= .returned (.tuple #[])/\vp w' (w1.heap.size+1) (w1.heap.size+1) (gq ++ leb 4 s ++ leb 4 l ++ leb 4 n)/\Below (w1.heap.size+1) i w':=mA _ _ _ n 4 i DV (by rw [dT,dT,aH,aH];decide) (by omega);go_wp2_with fail;refine fk ZB λw5 ai7 ff=>?_;have b:(gq ++ leb 4 s ++ leb 4 l ++ leb 4 n).length=20:=by rw [dT,dT,dT,aH,aH,aH];rfl
 have QF:Calls prog 101 #[.pointer (some ⟨w1.heap.size+1,0,none⟩),iV 508] w5 λe w'=>e= .returned (.tuple #[])/\vp w' (w1.heap.size+1) (w1.heap.size+1) (bM s l n)/\Below (w1.heap.size+1) w5 w':=by
  have:=Ky _ _ _ 488 w5 ai7 (by rw [b];decide) (by rw [b];decide);rw [b] at this;exact this
 go_wp2_with fail;refine fk QF λy ai9 ny=>?_;have NR:=GP _ _ _ y ai9 (by rw [dD];decide) (by rw [dD];decide) (gM s l n);rw [dD] at NR;go_wp2_with fail;refine NR.mono ?_;rintro e z ⟨g,c,rfl,j,q,vU⟩;have m:(Made w z (.slice (some (aD g 0)) 512 c) (eR (bM s l n))):=⟨g,c,by rw [oD,dD],by omega,q,((sW.trans (ff.mono (by omega))).trans (ny.mono (by omega))).trans (vU.mono (by omega))⟩;go_wp2;go_ret2;exact⟨_,rfl,m⟩
theorem Eb (s l n:Int) (w:World) (b:¬vq s l n):
  Calls prog 46 #[.agg #[iV s,iV l,iV n]] w λe w'=>e= .returned (.tuple #[.slice none 0 0,iV 22])/\bW w w':=by
 have c:∀w,Calls prog 98 #[.agg #[iV s,iV l,iV n]] w λe w'=>e= .returned (.tuple #[.agg #[iV 0,iV 0,iV 0,iV 0,iV 0],iV 22])/\bW w w':=λw=>by
  refine(GO s l n w).mono ?_;rintro e w' ⟨v,x,rfl,⟨h,_⟩|⟨_,rfl,rfl⟩,a⟩
  .exact absurd h b
  .exact⟨rfl,a⟩
 go_in;go_wp2_with fail;refine(c _).mono ?_;rintro e w1 ⟨rfl,aq⟩;have bK:=((bi _ w).alloc (bP _) _).trans (aq.mono (by simp));go_wp2;go_ret2;exact⟨rfl,(λo=>bK.alloc bK.size o) _⟩
section
abbrev gH (s l n:Nat):List Int:=eR (bM s l n)
def lZ (S:DS) (s:Nat):Int×DS:=eu S.take s 0 1
def mW (S:DS) (s:Nat):Int×DS:=eu (lZ S s).2 s 1 (s-1)
def jJ (S:DS) (s l:Nat):Int×DS:=cy (mW S s).2 s 1 (l:Int)
def l5 (S:DS) (s l n:Nat):Int×DS:=(jJ S s l).2.wr s 0 512 (gH s l n)
def ly (S:DS) (s l n:Nat):Int×DS:=
 if (lZ S s).1≠0 then lZ S s else if (mW S s).1≠0 then mW S s else if (jJ S s l).1≠0 then jJ S s l else if (l5 S s l n).1≠0 then l5 S s l n else (l5 S s l n).2.fl s
def RU (a b c:Int):Decidable (vq a b c):=by unfold vq;exact inferInstance
def bT (S:DS) (s:Nat) (a b c:Int):Int×DS:=
 if S.fuse=0 then (3,S) else haveI:=RU a b c;if vq a b c/\a=(s:Int) then ly S s b.toNat c.toNat else (22,S)
section
variable {w:World} {F:Nat->Prop} {p s cR:Nat} {S:DS}
theorem Mo {a b c:Int} (h:vq a b c):∃x y z:Nat,a=(x:Int)/\b=(y:Int)/\c=(z:Int):=by
 obtain⟨⟨e,f⟩,⟨g,i⟩,d,s1,s2⟩:=h;exact⟨a.toNat,b.toNat,c.toNat,by omega,by omega,by omega⟩
theorem j8 {S:DS} (h:S.fC) (s a n:Nat):(eu S s a n).2.fC:=by
 have b:=j6 h s a (ms:=eK n) (λx c=>by
  unfold eK at c;obtain⟨i,_,rfl⟩:=List.mem_map.1 c;intro v d;rw [zs,List.mem_replicate] at d;omega)
 unfold eu;split
 .exact b
 .exact b.fl s
theorem Ec (b:∀k,F k->k<w0.heap.size) (wH:aa F w0 w1) (hd:B.ax w2 (more (more F w0 w1) w1 w2) p s S' c) (a:aa (more F w0 w1) w1 w2):B.ax w2 (more F w0 w2) p s S' c/\aa F w0 w2:=
   ⟨hd.mono (uV wH.size a.size) (cG b (jQ wH.size a.size)),wH.trans a (λd h=>h.elim .inl (λh=> .inr h.1))⟩
theorem VP (b:∀k,F k->k<w0.heap.size) (wH:aa F w0 w1) (hd:B.ax w2 (more F w0 w1) p s S' c) (a:aa (more F w0 w1) w1 w2):B.ax w2 (more F w0 w2) p s S' c/\aa F w0 w2:=by
 have d:=a.size;exact⟨hd.mono (λk h=>h.elim .inl (λh=> .inr ⟨h.1,by omega⟩)) (cG b (jQ wH.size a.size)),wH.trans a (λk h=>h.elim .inl (λh=> .inr h.1))⟩
theorem tX {c':Nat} (b:∀k,F k->k<w.heap.size) (wH:aa F w w0) (h:B.ax w1 (more F w0 w1) p s S' c/\aa F w0 w1) (a:c<=c'):B.ax w1 (more F w w1) p s S' c'/\aa F w w1:=by
 have d:=wH.size;have e:=h.2.size;exact⟨(h.1.mono (λk h=>h.elim .inl (λh=> .inr ⟨by omega,h.2⟩)) (cG b (by omega))).le a,wH.trans h.2 (λk h=> .inl h)⟩
theorem tY (S:DS) (s:Nat) (f n:Int) (d:n<=256):(cy S s f n).2.puts.length<=S.puts.length+400:=by
 have a:=sm S.take s f.toNat n.toNat;have b:S.take.puts.length=S.puts.length:=rfl;have c:=zT (cK S.take s f.toNat n.toNat).2 s f.toNat 4294967296;unfold cy;split
 .show S.puts.length<=_;omega
 .split
  .omega
  .omega
theorem wl (h:B.ax w F p s S cR) (cZ:S.fC) (a b c:Int) (aT:S.puts.length+6000<=4000000000000):
  Calls prog 17 #[pQ p, .agg #[iV a,iV b,iV c]] w λe w'=>e= .returned (iV (bT S s a b c).1)/\B.ax w' (more F w w') p s (bT S s a b c).2 (cR+2)/\aa F w w':=by
 obtain⟨wB,VG⟩:=bQ (w.alloc (.cells #[.int .i64 a, .int .i64 b, .int .i64 c] 39));have Mk:bW w wB:=by rw [VG];exact aI _ _
 have hzB:wB.heap.size=w.heap.size+1:=by rw [VG,World.size_alloc]
 have dF:wB.heap[w.heap.size]? =some (.cells #[.int .i64 a, .int .i64 b, .int .i64 c] 39 (0,0)):=by rw [VG];exact heap_alloc_new _ _
 have iB:=h.later Mk;have h1:=B.yU iB;have ib:=h.lt;obtain⟨R,d⟩:=bQ (bT S s a b c);rw [<-d];unfold bT at d;subst VG;go_in;go_wp2_with fail;refine bE h1 λw1 bN=>?_;subst bN;by_cases J:S.fuse=0
 .rw [aE J] at d;have d1:(S.fuse == 0)=true:=by rw [beq_iff_eq];exact J
  rw [d1] at h1;go_wp2;go_ret;rw [d];exact⟨rfl,(iB.more (w:=w)).le (by omega),aa.ah F Mk⟩
 .rw [aA J] at d;have d1:(S.fuse == 0)=false:=by rw [eG];exact J
  rw [d1] at h1;by_cases C:vq a b c
  .obtain⟨x,y,z,rfl,rfl,rfl⟩:=Mo C;have I:=(λw=>GQ x y z w C);have mL:(gH x y z).length=512:=(by rw [gH,oD,dD]);obtain⟨c0,c1,c2,hgx,Mb⟩:=ey (aL dF) (bD dF) (bH dF) C.2.2.2.2 iB.ok.hi;by_cases ks:x=s
   .have ks':=ks.symm;subst ks';rw [aE ⟨C,rfl⟩] at d;simp only [Int.toNat_natCast] at d;have G:=I (w.alloc (.cells #[.int .i64 (s:Int), .int .i64 (y:Int), .int .i64 (z:Int)] 39));go_wp2_with fail;refine G.mono ?_;rintro e l ⟨v,rfl,g,cg,rfl,hg,aY,aW⟩;have ec:=aW.size;have E:=aL ((aW.block _ (by omega)).trans dF);have Vc:=((aW.block _ (by omega)).trans dF);have sj:=(iB.later aW);have ZK:=(λ(wx:World) (hb:bW l wx)=>B.pH (sj.later hb));have m:(B.ax l.drew (more F w l.drew) p s S (cR+2)/\aa F w l.drew):=⟨((iB.later (ai aW)).more (w:=w)).le (by omega),(aa.ah F Mk).trans (aa.ah (λ_=>False) (ai aW)) (λ_ h=>h.elim)⟩;go_wp2;go_region_held3 (λw'=>w'.cell? (aD w.heap.size 0)=some (iV (s:Int))) (exact E)
     (first
      |(go_at_call 47;refine(ZK _ (ai (bi _ _))).mono ?_;rintro e wy ⟨rfl,rH⟩;have mP:=rH.symm;subst mP;clear rH))
    have hWz:=(ai (bi l.heap.size l)).size;have K:=sj.later (ai (bi _ _));have Mp:=(((ai (bi l.heap.size l)).block _ (by omega)).trans Vc);have ZM:=aY.src;rw [mL] at ZM;have UF:g<l.heap.size:=ZM.old _ rfl (by omega);have M:=(ZM.later (ai (bi l.heap.size l)));generalize l.drew=W at*;have h3:=B.zB K;have XN:=C.1.2;have ed:(17:Int)<=(s:Int):=(by obtain⟨⟨l1,l2⟩,⟨n1,n2⟩,h3,s1,s2⟩:=C;omega);have oY:(lZ S s).2.puts.length<=S.puts.length+1:=lR S.take s 0 1;have uK:(mW S s).2.puts.length<=(lZ S s).2.puts.length+(s-1):=lR (lZ S s).2 s 1 (s-1);have TX:(jJ S s y).2.puts.length<=(mW S s).2.puts.length+400:=tY _ _ _ _ XN;have QZ:(l5 S s y z).2.puts.length<=(jJ S s y).2.puts.length+1:=i9 _ _ _ _ _;have dE:((mW S s).2.fC):=j8 (j8 cZ.take s 0 1) s 1 (s-1);have N:=(λ(f:World) (hd:B.ax f F p s S.take cR)=>show Calls prog 49 #[pQ p,iV 0,iV 1] f λe w'=>e= .returned (iV (lZ S s).1)/\B.ax w' (more F f w') p s (lZ S s).2 cR/\aa F f w' from CO hd 0 1 (by omega) (by omega) (by show S.puts.length+_+1<=_;omega));have O:=(λ(f:World) (n:Nat->Prop) (hd:B.ax f n p s (lZ S s).2 cR)=>show Calls prog 49 #[pQ p,iV 1,iV (s:Int)] f λe w'=>e= .returned (iV (mW S s).1)/\B.ax w' (more n f w') p s (mW S s).2 cR/\aa n f w' from CO hd 1 s (by omega) (by omega) (by omega));have P:=(λ(f:World) (n:Nat->Prop) (hd:B.ax f n p s (mW S s).2 cR)=>show Calls prog 50 #[pQ p,iV 1,iV (y:Int)] f λe w'=>e= .returned (iV (jJ S s y).1)/\B.ax w' (more n f w') p s (jJ S s y).2 (cR+2)/\aa n f w' from B.Kw hd dE 1 (y:Int) (by omega));have Q:=(λ(f:World) (n:Nat->Prop) (hd:B.ax f n p s (jJ S s y).2 (cR+2)) (hs:Src f (some (aD g 0)) 512 (gH s y z))=>show Calls prog 51 #[pQ p,iV 0, .slice (some (aD g 0)) 512 cg] f λe w'=>e= .returned (iV (l5 S s y z).1)/\B.ax w' (more n f w') p s (l5 S s y z).2 (cR+2)/\aa n f w' from B.D2 hd 0 (some (aD g 0)) 512 cg (gH s y z) hs (by omega));have T:=(λ(f:World) (n:Nat->Prop) (hd:B.ax f n p s (l5 S s y z).2 (cR+2))=>B.vg hd (by omega));unfold ly at d;generalize lZ S s=U at*;generalize mW S s=X at*;generalize jJ S s y=Y at*;generalize l5 S s y z=Z at*;go_wp2_with fail;refine fk h3 λf hd3 aV=>?_;have kO:=aV.size;have h4:=N f hd3;have H:∀j,w.heap.size<=j->¬F j:=λj hj hf=>by have:=ib _ hf;omega
    have VQ:(∀k,F k->k<f.heap.size):=λk hf=>by have:=ib k hf;omega
    have ma:=m.2.trans aV (λ_ h=> .inl h);have Vf:=((aV.block _ (by omega) (H _ (by omega))).trans Mp);have L:=(M.nB aV (λy hy _ e=>by
     cases hy;exact H g (by omega) e))
    go_wp2_with fail;refine fk h4 λw4 hd q=>?_;have GR:=(aF hd q);by_cases r:U.1≠0
    .rw [aE r] at d;have dY:(U.1 != 0)=true:=(by rw [fT];exact r);have m:=(tX (c':=cR+2) ib ma GR (by omega));go_wp2;go_ret;rw [d];exact⟨rfl,m⟩
    .rw [aA r] at d;have dY1:(U.1 != 0)=false:=(by rw [Decidable.byContradiction r];rfl);have cS:=aj ((GR.2.block _ (by omega) (H _ (by omega))).trans Vf) (j:=0) rfl;have h5:=O _ _ GR.1;go_wp2_with fail;refine fk h5 λw5 hd q=>?_;have N2:=(Ec VQ GR.2 hd q);by_cases t:X.1≠0
     .rw [aE t] at d;have dY:(X.1 != 0)=true:=(by rw [fT];exact t);have m:=(tX (c':=cR+2) ib ma N2 (by omega));go_wp2;go_ret;rw [d];exact⟨rfl,m⟩
     .rw [aA t] at d;have dY2:(X.1 != 0)=false:=(by rw [Decidable.byContradiction t];rfl);have cL:=aj ((N2.2.block _ (by omega) (H _ (by omega))).trans Vf) (j:=1) rfl;have h6:=P _ _ N2.1;go_wp2_with fail;refine fk h6 λw6 hd q=>?_;have o:=(Ec VQ N2.2 hd q);by_cases u:Y.1≠0
      .rw [aE u] at d;have dY:(Y.1 != 0)=true:=(by rw [fT];exact u);have m:=(tX (c':=cR+2) ib ma o (by omega));go_wp2;go_ret;rw [d];exact⟨rfl,m⟩
      .rw [aA u] at d;have dY3:(Y.1 != 0)=false:=(by rw [Decidable.byContradiction u];rfl);have h7:=Q _ _ o.1 (L.nB o.2 (λy hy _ e=>by
        cases hy;exact H g (by omega) e))
       go_wp2_with fail;refine fk h7 λw7 hd q=>?_;have D:=(Ec VQ o.2 hd q);by_cases A:Z.1≠0
       .rw [aE A] at d;have dY:(Z.1 != 0)=true:=(by rw [fT];exact A);have m:=(tX (c':=cR+2) ib ma D (by omega));go_wp2;go_ret;rw [d];exact⟨rfl,m⟩
       .rw [aA A] at d;have dY4:(Z.1 != 0)=false:=(by rw [Decidable.byContradiction A];rfl);have h8:=T _ _ D.1;go_wp2_with fail;refine fk h8 λw8 hd q=>?_;have m:=(tX (c':=cR+2) ib ma (VP VQ D.2 hd q) (by omega));go_wp2;go_ret;rw [d];exact⟨rfl,m⟩
   .rw [aA (λh=>ks (by have:=h.2;omega))] at d;have dG:((x:Int) != (s:Int))=true:=(by rw [fT];omega);have G:=I (w.alloc (.cells #[.int .i64 (x:Int), .int .i64 (y:Int), .int .i64 (z:Int)] 39));go_wp2_with fail;refine G.mono ?_;rintro e l ⟨v,rfl,g,cg,rfl,hg,aY,aW⟩;have ec:=aW.size;have E:=aL ((aW.block _ (by omega)).trans dF);have Vc:=((aW.block _ (by omega)).trans dF);have sj:=(iB.later aW);have ZK:=(λ(wx:World) (hb:bW l wx)=>B.pH (sj.later hb));have m:(B.ax l.drew (more F w l.drew) p s S (cR+2)/\aa F w l.drew):=⟨((iB.later (ai aW)).more (w:=w)).le (by omega),(aa.ah F Mk).trans (aa.ah (λ_=>False) (ai aW)) (λ_ h=>h.elim)⟩;go_wp2;go_region_held3 (λw'=>w'.cell? (aD w.heap.size 0)=some (iV (x:Int))) (exact E)
     (first
      |(go_at_call 47;refine(ZK _ (ai (bi _ _))).mono ?_;rintro e wy ⟨rfl,rH⟩;have mP:=rH.symm;subst mP;clear rH))
    go_wp2;go_ret;rw [d];exact⟨rfl,m⟩
  .have G:=λw=>Eb a b c w C;rw [aA (λh=>C h.1)] at d;obtain⟨I,c0,c1,c2⟩:=cM G (aL dF) (bD dF) (bH dF);have G:=I (w.alloc (.cells #[.int .i64 a, .int .i64 b, .int .i64 c] 39));go_wp2_with fail;refine bE G λl aW=>?_;have m:(B.ax l.drew (more F w l.drew) p s S (cR+2)/\aa F w l.drew):=⟨((iB.later (ai aW)).more (w:=w)).le (by omega),(aa.ah F Mk).trans (aa.ah (λ_=>False) (ai aW)) (λ_ h=>h.elim)⟩;go_wp2;refine wp_region_held_drew (S:=(λ_=>True)) (by kernel_rfl) (trivial) (λRV=>?_);refine wpAnyH_take (i:=0) (oi:={dst:=some 18,op:=Op.move (Operand.tmp 6),type:=49,pos:= "store.go:34",after:= #[],guard:=none}) (v:=iV 22) rfl (by kernel_rfl) (by kernel_rfl) (by kernel_rfl) (λ_ _ _ h=>h) (Or.inl ⟨by rfl,?_⟩) (by assumption) ?_
   .intro w vt
    (try dsimp only at vt)
    go_simp
   try simp only [Act.put,List.setIfInBounds_toArray,List.set_cons_zero,List.set_cons_succ]
   refine wpAnyH_take (i:=1) (oi:={dst:=some 19,op:=Op.binOp BinOp.neq 49 (Operand.tmp 18) (Operand.const (Value.int IntKind.i64 0)) 49,type:=4,pos:= "store.go:34",after:= #[{on:=0,ground:=Ground.data}],guard:=none}) (v:= .bool true) rfl (by kernel_rfl) (by kernel_rfl) (by kernel_rfl) (λ_ _ _ h=>h) (Or.inl ⟨by rfl,?_⟩) (by assumption) ?_
   .intro w vt
    (try dsimp only at vt)
    go_simp
   try simp only [Act.put,List.setIfInBounds_toArray,List.set_cons_zero,List.set_cons_succ]
   refine wpAnyH_take (i:=2) (oi:={dst:=some 20,op:=Op.move (Operand.tmp 19),type:=4,pos:= "store.go:34",after:= #[{on:=1,ground:=Ground.data}],guard:=none}) (v:= .bool true) rfl (by kernel_rfl) (by kernel_rfl) (by kernel_rfl) (λ_ _ _ h=>h) (Or.inl ⟨by rfl,?_⟩) (by assumption) ?_
   .intro w vt
    (try dsimp only at vt)
    go_simp
   try simp only [Act.put,List.setIfInBounds_toArray,List.set_cons_zero,List.set_cons_succ]
   refine wpAnyH_take (i:=3) (oi:={dst:=some 21,op:=Op.fieldAddr 39 (Operand.tmp 3) 0,type:=0,pos:= "store.go:34",after:= #[{on:=2,ground:=Ground.guard}],guard:=some (2,false)}) (v:=undef) rfl (by kernel_rfl) (by kernel_rfl) (by kernel_rfl) (λ_ _ _ h=>h) (Or.inr ⟨by rfl,rfl⟩) (by assumption) ?_;try simp only [Act.put,List.setIfInBounds_toArray,List.set_cons_zero,List.set_cons_succ]
   refine wpAnyH_take (i:=4) (oi:={dst:=some 22,op:=Op.load 3 (Operand.tmp 21),type:=3,pos:= "store.go:34",after:= #[{on:=3,ground:=Ground.data},{on:=2,ground:=Ground.guard}],guard:=some (2,false)}) (v:=undef) rfl (by kernel_rfl) (by kernel_rfl) (by kernel_rfl) (λ_ _ _ h=>h) (Or.inr ⟨by rfl,rfl⟩) (by assumption) ?_;try simp only [Act.put,List.setIfInBounds_toArray,List.set_cons_zero,List.set_cons_succ]
   refine wpAnyH_take (i:=5) (oi:={dst:=some 23,op:=Op.move (Operand.tmp 0),type:=28,pos:= "store.go:34",after:= #[{on:=2,ground:=Ground.guard}],guard:=some (2,false)}) (v:=undef) rfl (by kernel_rfl) (by kernel_rfl) (by kernel_rfl) (λ_ _ _ h=>h) (Or.inr ⟨by rfl,rfl⟩) (by assumption) ?_;try simp only [Act.put,List.setIfInBounds_toArray,List.set_cons_zero,List.set_cons_succ]
   refine wpAnyH_take (i:=6) (oi:={dst:=some 24,op:=Op.call {callee:=Callee.value (Operand.func 47),args:= #[Operand.tmp 23],argTypes:= #[28]},type:=3,pos:= "store.go:34",after:= #[{on:=5,ground:=Ground.data},{on:=2,ground:=Ground.chain},{on:=2,ground:=Ground.guard}],guard:=some (2,false)}) (v:=undef) rfl (by kernel_rfl) (by kernel_rfl) (by kernel_rfl) (λ_ _ _ h=>h) (Or.inr ⟨by rfl,rfl⟩) (by assumption) ?_;try simp only [Act.put,List.setIfInBounds_toArray,List.set_cons_zero,List.set_cons_succ]
   refine wpAnyH_take (i:=7) (oi:={dst:=some 25,op:=Op.binOp BinOp.neq 3 (Operand.tmp 22) (Operand.tmp 24) 3,type:=4,pos:= "store.go:34",after:= #[{on:=4,ground:=Ground.data},{on:=6,ground:=Ground.data},{on:=2,ground:=Ground.guard}],guard:=some (2,false)}) (v:=undef) rfl (by kernel_rfl) (by kernel_rfl) (by kernel_rfl) (λ_ _ _ h=>h) (Or.inr ⟨by rfl,rfl⟩) (by assumption) ?_;try simp only [Act.put,List.setIfInBounds_toArray,List.set_cons_zero,List.set_cons_succ]
   refine wpAnyH_take (i:=8) (oi:={dst:=some 26,op:=Op.pick (Operand.tmp 20) (Operand.const (Value.bool true)) (Operand.tmp 25),type:=4,pos:= "store.go:34",after:= #[{on:=2,ground:=Ground.data},{on:=7,ground:=Ground.data}],guard:=none}) (v:= .bool true) rfl (by kernel_rfl) (by kernel_rfl) (by kernel_rfl) (λ_ _ _ h=>h) (Or.inl ⟨by rfl,?_⟩) (by assumption) ?_
   .intro w vt
    (try dsimp only at vt)
    go_simp
   try simp only [Act.put,List.setIfInBounds_toArray,List.set_cons_zero,List.set_cons_succ]
   refine wpAnyH_done (by kernel_rfl) ?_ _;go_wp2;go_ret;rw [d];exact⟨rfl,m⟩
end
end
section
abbrev Pr (y:LY):Value:= .agg #[iV (y.log:Int),iV (y.home:Int),iV (y.blocks:Int),iV (y.nodes:Int),iV (y.data:Int)]
theorem RX:(prog.info? 86).map (·.size)=some 5:=by kernel_rfl
theorem GS (w:World) (y:LY):(w.alloc (.cells #[.int .i64 (y.log:Int), .int .i64 (y.home:Int), .int .i64 (y.blocks:Int), .int .i64 (y.nodes:Int), .int .i64 (y.data:Int)] 86)).rangeAt w.heap.size 0 [iV (y.log:Int),iV (y.home:Int),iV (y.blocks:Int),iV (y.nodes:Int),iV (y.data:Int)]:=by
 have b:=heap_alloc_new w (.cells #[.int .i64 (y.log:Int), .int .i64 (y.home:Int), .int .i64 (y.blocks:Int), .int .i64 (y.nodes:Int), .int .i64 (y.data:Int)] 86);intro j v a
 match j,a with
 |0,a=>cases a;exact aL b
 |1,a=>cases a;exact bD b
 |2,a=>cases a;exact bH b
 |3,a=>cases a;exact fI b
 |4,a=>cases a;exact gz b
 |j+5,a=>simp at a
section
variable {w:World} {F:Nat->Prop} {p q l m t n:Nat} {y:LY} {busy:Bool} {G:SG} {T:TG}
theorem Kz (h:mZ w q p l m y busy):
  Calls prog 79 #[pQ q] w λe w'=>e= .returned (Pr y)/\bW w w':=by
 have h:=h.later (aI w (.cells #[.int .i64 0, .int .i64 0, .int .i64 0, .int .i64 0, .int .i64 0] 86));obtain⟨a,b,c,d,f⟩:=ey (bH h) (fI h) (gz h) (rU h) (wG h);go_in;go_wp2;refine bodyPost_ret (gh (P:=prog) rfl _ _ w.heap.size _ _ rfl (GS w y) underlying86 rfl RX) rfl ⟨rfl,aI _ _⟩
theorem GT (h:mZ w q p l m G.y busy) (b:mx w F q l m t n G T):
  Calls prog 92 #[pQ t] w λe w'=>e= .returned (Pr G.y)/\bW w w':=by
 have a:=aI w (.cells #[.int .i64 0, .int .i64 0, .int .i64 0, .int .i64 0, .int .i64 0] 86);have c:=(b.later a).c0;have h:=h.later a;obtain⟨d,f,g,i,j⟩:=ey (bH h) (fI h) (gz h) (rU h) (wG h);go_in;go_wp2;refine bodyPost_ret (gh (P:=prog) rfl _ _ w.heap.size _ _ rfl (GS w G.y) underlying86 rfl RX) rfl ⟨rfl,aI _ _⟩
end
end
section
theorem Ob (d:CM.Ok ms) (b:Nat):∃R,ms=below ms b ++ R:=by
 induction ms with
 |nil=>exact⟨[],rfl⟩
 |cons q g f=>
  have c:=List.pairwise_cons.1 d;by_cases h:q.1<b
  .obtain⟨R,e⟩:=f c.2;exact⟨R,by rw [sw,aE h,List.cons_append,<-e]⟩
  .exact⟨q :: g,by rw [oA (λx a=>by rcases List.mem_cons.1 a with rfl|a;exact h;have:=c.1 x a;omega)];rfl⟩
theorem GU {S:DS} {s b:Nat} (a:CM.Ok ms) (h:(sbring S s h0 (below ms b)).1≠0):sbring S s h0 ms=sbring S s h0 (below ms b):=by
 obtain⟨R,e⟩:=Ob a b
 conv=>lhs;rw [e]
 rw [fi,aE h]
theorem p8 {S:DS} {s:Nat} {a:CM} (h:(sbring S s h0 a).1=0) (q:Nat×List Int):sbring S s h0 (a ++ [q])=(sbring S s h0 a).2.wr s ((h0+q.1:Nat):Int) 512 q.2:=by
 rw [fi,aA (λe=>e h),jt];by_cases e:((sbring S s h0 a).2.wr s ((h0+q.1:Nat):Int) 512 q.2).1≠0
 .rw [aE e]
 .rw [aA e];show ((0:Int),_)=_;rw [<-Decidable.not_not.1 e]
theorem GV {S:DS} {s k:Nat} (a:k<s) (l:List Int):(S.wr s (k:Int) 512 l).1=0\/(S.wr s (k:Int) 512 l).1=3:=by
 unfold DS.wr;split
 .exact .inr rfl
 .rw [aA (by omega),aA (by omega)];exact .inl rfl
theorem ev {s h0:Nat}:∀{ms:CM} {S:DS},S.Ok s->(∀q∈ms,h0+q.1<s/\q.2.length=512)->((sbring S s h0 ms).1=0\/(sbring S s h0 ms).1=3)/\(sbring S s h0 ms).2.life=S.life/\(sbring S s h0 ms).2.Ok s/\((sbring S s h0 ms).1≠0->(sbring S s h0 ms).2.fuse=0)/\(∀j,(∀q∈ms,h0+q.1≠j)->(sbring S s h0 ms).2.now j=S.now j)
 | [],S,hS,_=>⟨.inl rfl,rfl,hS,λh=>absurd rfl h,λ_ _=>rfl⟩
 |q :: qs,S,hS,hk=>by
  have a:=hk q List.mem_cons_self;rw [jt];by_cases e:(S.wr s ((h0+q.1:Nat):Int) 512 q.2).1≠0
  .rw [aE e];obtain⟨b,n⟩:=Q2 a.1 e;refine⟨GV a.1 _,kq _ _ _ _ _,by rw [b];exact hS,λ_=>by rw [b];exact n,λj _=>by rw [b]⟩
  .rw [aA e];have d:=Ma (Decidable.not_not.1 e);obtain⟨g,i,k,l,m⟩:=ev (ms:=qs) (tP hS d a.1 a.2) (λx c=>hk x (List.mem_cons_of_mem _ c));refine⟨g,i.trans (kq _ _ _ _ _),k,l,λj f=>?_⟩;rw [m j (λx c=>f x (List.mem_cons_of_mem _ c)),jD d a.1,aA (λh=>f q List.mem_cons_self h.symm)]
theorem CR {s h0 b:Nat} {c:List Int}:∀{ms:CM} {S:DS},S.Ok s->CM.Ok ms->(∀q∈ms,h0+q.1<s/\q.2.length=512)->(sbring S s h0 ms).1=0->CM.get ms b=some c->(sbring S s h0 ms).2.now (h0+b)=c
 | [],S,_,_,_,_,h=>by cases h
 |q :: qs,S,hS,ho,hk,O8,hg=>by
  have d:=hk q List.mem_cons_self;have j:=List.pairwise_cons.1 ho;rw [jt] at O8⊢;by_cases e:(S.wr s ((h0+q.1:Nat):Int) 512 q.2).1≠0
  .rw [aE e] at O8;exact absurd O8 e
  .rw [aA e] at O8⊢;have i:=Ma (Decidable.not_not.1 e);have a:=tP hS i d.1 d.2;have aX:=λx f=>hk x (List.mem_cons_of_mem _ f);rw [CM.lO] at hg;by_cases g:q.1=b
   .rw [aE g] at hg;cases hg;rw [(ev a aX).2.2.2.2 _ (λx f=>by have:=j.1 x f;omega),jD i d.1,aE (by omega)]
   .rw [aA g] at hg;exact CR a j.2 aX O8 hg
theorem Oc (c:CM.Ok ms) (h:∀q∈ms,q.1<n) (b:Nat):(below ms b).length<=n:=by
 have d:(below ms b).length<=ms.length:=List.length_filter_le _ _;rcases CM.length_le c h 0 (λ_ _=>dU _) with a|a
 .omega
 .rw [a];exact dU _
theorem mB (ps:List (Nat×List Int)):CM.Ok (CM.bX [] ps):=CM.qM rD ps
theorem eO {ps:List (Nat×List Int)} {x:Nat×List Int} (h:x∈CM.bX [] ps):x∈ps:=by
 have a:=CM.get_of_mem (mB ps) (k:=x.1) (c:=x.2) h;rw [gL] at a;exact EZ a
section
variable {w w':World} {F X:Nat->Prop} {r s k kl t hm:Nat} {S:DS} {y:LY} {v:Value} {ps:List (Nat×List Int)}
theorem GW (wH:aa F w0 w1) (hd:aB w2 (more (more F w0 w1) w1 w2) r s S') (a:aa (more F w0 w1) w1 w2):aB w2 (more F w0 w2) r s S'/\aa F w0 w2:=by
 have gv:=wH.size;have b:=a.size;refine⟨hd.mono (λk a=>?_) (λk a=>?_),wH.trans a (λk a=>?_)⟩
 .rcases a with (a|a)|a
  .exact .inl a
  .exact .inr ⟨a.1,by omega⟩
  .exact .inr ⟨by omega,a.2⟩
 .rcases a with a|a
  .exact hd.lt k (.inl (.inl a))
  .exact a.2
 .rcases a with a|a
  .exact .inl a
  .exact .inr a.1
theorem tZ (b:bW w0 w1) (hd:aB w2 (more F w1 w2) r s S') (a:aa F w1 w2):aB w2 (more F w0 w2) r s S'/\aa F w0 w2:=by
 have gv:=b.size;refine⟨hd.mono (λk a=>a.imp id (λh=>⟨by omega,h.2⟩)) (λk a=>?_),(aa.ah F b).trans a (λ_ h=> .inl h)⟩;rcases a with a|a
 .exact hd.lt k (.inl a)
 .exact a.2
theorem Ad (hd:aB w F r s S) (h:PV w X v ps) (fD:∀g,X g->¬F g) (hs:y.home+y.blocks<=s) (oZ:∀x∈ps,x.1<y.blocks) (aT:S.puts.length+3000<=4000000000000) (VE:ps.length<=4000000000000):
  Calls prog 123 #[pQ r,Pr y,v] w λe w'=>e= .returned (iV (sbring S s y.home (CM.bX [] ps)).1)/\aB w' (more F w w') r s (sbring S s y.home (CM.bX [] ps)).2/\aa F w w':=by
 obtain⟨a,c,rfl,-⟩:=h.form;obtain⟨W,E⟩:∃W,W=w.alloc (.cells #[.int .i64 (y.log:Int), .int .i64 (y.home:Int), .int .i64 (y.blocks:Int), .int .i64 (y.nodes:Int), .int .i64 (y.data:Int)] 86):=⟨_,rfl⟩;have D:bW w W:=by rw [E];exact(bi w.heap.size w).alloc (bP _) _
 have hg:W.heap[w.heap.size]? =some (.cells #[.int .i64 (y.log:Int), .int .i64 (y.home:Int), .int .i64 (y.blocks:Int), .int .i64 (y.nodes:Int), .int .i64 (y.data:Int)] 86 (0,0)):=by rw [E];exact heap_alloc_new _ _
 have hWs:W.heap.size=w.heap.size+1:=by rw [E];simp
 have dh:=hd.ok;have km:=dh.hi;have bm:=hd.lt;have R:=mB ps;have Ed:∀q∈CM.bX [] ps,y.home+q.1<s/\q.2.length=512:=λq G=>⟨by have:=oZ q (eO G);omega,(h.len q (eO G)).1⟩;have Un:=λq G=>oZ q (eO G);have adF:=gL ps;have t:ps.length=0->CM.bX [] ps= []:=λe=>by rw [List.length_eq_zero_iff.1 e];rfl
 generalize CM.bX [] ps=M at*;obtain⟨P,HP,HF,HK,n,p,HG,HZ,I,q22⟩:=vH (yh (hd.later D)) (yh (h.later D)) (yh (ev dh Ed).1) (yh Ed) (yh R) (yh Un) (yh adF) (yh t) (yh D) Re;clear hd h Ed R Un adF t D;go_in;go_wp2;rw [<-E];go_loopw [7] (λi wr=>∃b:Nat,b<=y.blocks/\i=iV (b:Int)/\(sbring S s y.home (below M b)).1=0/\aB wr (more F W wr) r s (sbring S s y.home (below M b)).2/\aa F W wr) (λi _=>y.blocks-(intOf i).toNat);case atStart=>exact⟨0,dU _,rfl,by rw [sA];rfl,by rw [sA];exact(P.o.mono (λ_ h=> .inl h) (λk u=>by rcases u with u|u;exact P.o.lt k u;exact u.2)),aa.refl _ _⟩
 case round=>
  obtain⟨b,hb,rfl,h0,j7,xM⟩:=hrel;have dF:=(xM.block w.heap.size (by omega) (λhF=>by have:=bm _ hF;omega)).trans hg;have b1:wr.cell? (aD w.heap.size 1)=some (iV (y.home:Int)):=bD dF;have b2:wr.cell? (aD w.heap.size 2)=some (iV (y.blocks:Int)):=bH dF;have A:=HP.o.au xM fD;obtain⟨I8,pf,kv,m,j,f,E9⟩:=nW (qN A b (by omega)) (eA S s y.home (below M b)) (Oc n.o p.o b) (yh h0) (yh j7) (yh xM) (HG.o b);clear h0 j7 xM A dF;by_cases q:b<y.blocks/\0<ps.length
  .have U:(b:Int)<(y.blocks:Int):=(by omega);have q2:(0:Int)<(ps.length:Int):=(by omega);obtain⟨Y,qp⟩:=q;cases T:fnd ps b with
   |none=>
    rw [T] at I8 E9;go_wp2_with fail;refine I8.mono ?_;rintro e w1 ⟨N,O⟩;subst O;rcases N with ⟨_,rfl⟩|⟨l',g,c',L,_⟩
    .clear I8;go_wp2;go_roundw;case rel=>exact⟨b+1,by omega,by go_num,by rw [sx n.o E9];exact m.o,by rw [sx n.o E9];exact j.o,f.o⟩
     case measure=>simp [intOf];omega
    .cases L
   |some l=>
    rw [T] at I8 E9;have xL:∀(g c':Nat),ay wr 5 g c' (bs l)->l.length=512->_:=λg c' H hl=>it j.o ((y.home:Int)+(b:Int)) (some (aD g 0)) 512 c' l (by have:=H.src;rwa [hl] at this) (by omega);have HW:=yh xL;have adH:=(HK.o (b,l) (CM.get_mem E9)).2;clear xL;go_wp2_with fail;refine I8.mono ?_;rintro e w1 ⟨N,O⟩;subst O;rcases N with ⟨h0,_⟩|⟨l',g,c',L,rfl,hX,H⟩
    .cases h0
    cases L;have dw:=HW.o g c' H adH;have fZ:=p8 m.o (b,l);rw [<-sy n.o E9] at fZ;have tT:((y.home+b:Nat):Int)=(y.home:Int)+(b:Int):=(by omega);rw [tT] at fZ;rw [<-fZ] at dw;clear I8 H fZ;by_cases z:(sbring S s y.home (below M (b+1))).1=0
    .have d:((sbring S s y.home (below M (b+1))).1 != 0)=false:=(by rw [z];rfl);have K:=yh z;clear z;go_wp2_with fail;refine fk dw λw2 cC aX=>?_;have C:=yh (GW f.o cC aX);clear dw cC aX;go_wp2;go_roundw;case rel=>exact⟨b+1,by omega,by go_num,K.o,C.o⟩
     case measure=>simp [intOf];omega
    .have d:((sbring S s y.home (below M (b+1))).1 != 0)=true:=(by rw [fT];exact z);have bt:=GU n.o z;have J:=yh bt;have Q:=HF.o.resolve_left (by rw [bt];exact z);have Z:=yh Q;clear z bt Q;go_wp2_with fail;refine fk dw λw2 cC aX=>?_;have C:=yh (GW f.o cC aX);clear dw cC aX;go_wp2;go_ret;refine⟨by rw [Z.o];rfl,?_⟩;rw [J.o];exact tZ I.o C.o.1 C.o.2
  .have bR:below M b=M:=by
    by_cases Y:b<y.blocks
    .have:=HZ.o (by omega);subst this;rfl
    .exact Cz (λx hx=>by have:=p.o x hx;omega)
   have jz:(sbring S s y.home M).1=0/\aB wr (more F W wr) r s (sbring S s y.home M).2:=(by rw [<-bR];exact⟨m.o,j.o⟩);have mR:=yh jz;clear jz I8 bR;by_cases Y:b<y.blocks
   .have U:(b:Int)<(y.blocks:Int):=(by omega);have q2:¬(0:Int)<(ps.length:Int):=(by omega);clear q;go_wp2;go_ret;exact⟨by rw [mR.o.1];rfl,tZ I.o mR.o.2 f.o⟩
   .have U:¬(b:Int)<(y.blocks:Int):=(by omega);clear q;go_wp2;go_ret;exact⟨by rw [mR.o.1];rfl,tZ I.o mR.o.2 f.o⟩
end
end
section
def qT (w w':World) (code:Int) (c:List Int) (e:Ending):Prop:=
 if code≠0 then e= .returned (.tuple #[.slice none 0 0,iV code])
 else∃g,e= .returned (.tuple #[.slice (some (aD g 0)) 512 512,iV 0])/\w.heap.size<=g/\ay w' 5 g 512 (bs c)
section
variable {w w':World} {F X:Nat->Prop} {r s k kl t hm:Nat} {S:DS} {G:SG} {T:TG} {pv nv tv:Value} {ps us:List (Nat×List Int)}
theorem iz.ZN (hd:aB w F r s S) (h:iz w F X r s S k kl G pv ps hm nv) {b:Nat} (d:b<G.y.blocks):(G.block S b).length=512:=by
 unfold SG.block;cases a:CM.get G.ov b with
 |none=>rw [Option.getD_none];exact br hd.ok _ (by have:=h.hs;omega)
 |some c=>
  rw [Option.getD_some];rw [h.ov] at a;exact(h.pl.len _ (List.mem_of_mem_drop (eO (CM.get_mem a)))).1
theorem Ae (hd:aB w F r s S) (h:iz w F X r s S k kl G pv ps hm nv) (m:nT w X k t G T tv us) (b:Int) (aT:S.puts.length<=4000000000000) (VE:ps.length<=4000000000000):
  Calls prog 83 #[pQ t,iV b] w λe w'=>qT w w' (T.refusal G S b) (T.jN G S b.toNat) e/\bW w w':=by
 have f:=j5 hd h m.tx;have hz:T.refusal G S b=0->G.L.dead S=false/\T.ended=false/\T.bad=0/\0<=b/\b<(G.y.blocks:Int):=iK;by_cases q:T.state G S=0
 .have d:(T.state G S != 0)=false:=by rw [q];rfl
  by_cases P:b<0
  .have j:T.refusal G S b=11:=(by unfold TG.refusal;rw [aA (λh=>h q),aE (.inl P)]);rw [j];generalize T.state G S=E at*;go_in;go_wp2_with fail;refine bE f λw1 aq=>?_;have a:=aq;go_wp2;go_ret2;exact⟨rfl,a⟩
  .by_cases Q:(G.y.blocks:Int)<=b
   .have j:T.refusal G S b=11:=(by unfold TG.refusal;rw [aA (λh=>h q),aE (.inr Q)]);rw [j];have v:=m.tx;have u:=h.st;generalize T.state G S=E at*;go_in;go_wp2_with fail;refine bE f λw1 aq=>?_;have M:=(v.later aq).c0;have N:=(u.later aq).c4;have a:=aq;go_wp2;go_ret2;exact⟨rfl,a⟩
   .have j:T.refusal G S b=0:=(by unfold TG.refusal;rw [aA (λh=>h q),aA (λh=>h.elim P Q)]);obtain⟨r1,r2,_,_,_⟩:=hz j;rw [j];obtain⟨b,rfl⟩:∃b':Nat,b=(b':Int):=⟨b.toNat,by omega⟩;rw [Int.toNat_natCast];have O:b<G.y.blocks:=(by omega);have ajd:T.jN G S b=(fnd us b).getD (G.block S b):=(by unfold TG.jN;rw [m.pu r2,gL]);rw [ajd];obtain⟨kv,J,adI,v,u⟩:=ey (iz.ZN hd h O) m.pl.len m.D6 m h;have p:=(λ(w1:World) (f:bW w w1)=>qN (m.pl.later f).pv b (by omega));have z:=(λ(w1:World) (f:bW w w1)=>zO (hd.later f) (h.later f) r1 b O aT VE);generalize T.state G S=E at*;have IZ:∀(i:World) (g c:Nat) (l:List Int),bW w i->ay i 5 g c (bs l)->l.length=512->Calls prog 97 #[.slice (some (aD g 0)) 512 c] i λe w'=>∃g,e= .returned (.slice (some (aD g 0)) 512 512)/\i.heap.size<=g/\ay w' 5 g 512 (bs l)/\bW i w':=λi g c l _ o H=>lH (some (aD g 0)) 512 c l i (by omega) (by have:=o.src;rwa [H] at this);have n:=IZ;have q22:=Re;cases D:fnd us b with
    |some l=>
     have H:=(J (b,l) (EZ D)).1;rw [D] at p;go_in;go_wp2_with fail;refine bE f λw1 aq=>?_;have wh:=v.tx.later aq;obtain⟨M,W,N,x,a⟩:=ey wh.c0 wh.c1 ((u.st.later aq).c4) (p w1 aq) aq;go_wp2_with fail;refine x.mono ?_;rintro e i ⟨I,K⟩;subst K;rcases I with ⟨h0,_⟩|⟨l',g,c,A,rfl,hX,o⟩
     .cases h0
     cases A;have C:=n i g c l a o H;go_wp2_with fail;refine C.mono ?_;rintro e R ⟨Y,rfl,E7,sV,bz⟩;have I9:=sV;have fS:=bz;go_wp2;go_ret2;exact⟨⟨Y,rfl,by have:=a.size;omega,I9⟩,a.trans (fS.mono a.size)⟩
    |none=>
     rw [D] at p;go_in;go_wp2_with fail;refine bE f λw1 aq=>?_;have wh:=v.tx.later aq;obtain⟨M,W,N,x,hk,a⟩:=kQ wh.c0 wh.c1 ((u.st.later aq).c4) (p w1 aq) (z w1 aq) aq;go_wp2_with fail;refine x.mono ?_;rintro e i ⟨I,K⟩;subst K;rcases I with ⟨_,rfl⟩|⟨l',g,c,A,_⟩
     .clear x;go_wp2_with fail;refine hk.mono ?_;rintro e R ⟨⟨g,c,rfl,hX,o⟩,bz⟩;have C:=n R g c _ (a.trans (bz.mono a.size)) o kv;have fS:=(a.trans (bz.mono a.size));go_wp2_with fail;refine C.mono ?_;rintro e w4 ⟨Z,rfl,Gi,ub,fe⟩;have Vo:=ub;have jB:=fe;go_wp2;go_ret2;exact⟨⟨Z,rfl,by have:=fS.size;omega,Vo⟩,fS.trans (jB.mono fS.size)⟩
     .cases A
 .have d:(T.state G S != 0)=true:=by rw [fT];exact q
  have j:T.refusal G S b=T.state G S:=by unfold TG.refusal;rw [aE q]
  rw [j];have U:=q;generalize T.state G S=E at*;go_in;go_wp2_with fail;refine bE f λw1 aq=>?_;have a:=aq;go_wp2;go_ret2;exact⟨by unfold qT;rw [aE U];rfl,a⟩
end
end
theorem GX {α:Type} (l:List α) (a:i<l.length):l=l.take i ++ l[i] :: l.drop (i+1):=by rw [<-List.drop_eq_getElem_cons a,List.take_append_drop]
theorem E4 (a c:List (Nat×List Int)) (q:Nat×List Int) (j:Nat):fnd (a ++ q :: c) j=((fnd c j).or (if q.1=j then some q.2 else none)).or (fnd a j):=by rw [lX,fnd]
theorem W8 {b:Nat} (a:i<us.length) (c:us[i].1=b) (f:(us.map (·.1)).Nodup) (j:Nat):fnd (us.set i (b,d)) j=if j=b then some d else fnd us j:=by
 have g:us.set i (b,d)=us.take i ++ (b,d) :: us.drop (i+1):=by rw [List.set_eq_take_append_cons_drop,aE a]
 have k:fnd us j=((fnd (us.drop (i+1)) j).or (if us[i].1=j then some us[i].2 else none)).or (fnd (us.take i) j):=by
  have:=E4 (us.take i) (us.drop (i+1)) us[i] j;rwa [<-(GX us a)] at this
 rw [g,E4,k,c];by_cases q:j=b
 .subst q;have iZ:fnd (us.drop (i+1)) j=none:=uB (λx l e=>by
   obtain⟨n,iQ,rfl⟩:=List.mem_iff_getElem.1 l;rw [List.getElem_drop] at e;rw [List.length_drop] at iQ;rw [List.nodup_iff_pairwise_ne,List.pairwise_iff_getElem] at f;have:=f i (i+1+n) (by simpa using a) (by rw [List.length_map];omega) (by omega);simp only [List.getElem_map] at this;exact this (c.trans e.symm))
  rw [aE rfl,iZ,aE rfl];rfl
 .have m:¬b=j:=λh=>q h.symm;rw [aA q];simp only [aA m]
theorem RY {b:Nat} (c:i<us.length) (a:us[i].1=b) (e:(us.map (·.1)).Nodup):CM.bX [] (us.set i (b,d))=CM.put (CM.bX [] us) b d:=by
 refine CM.ext (CM.qM rD _) (CM.uZ (CM.qM rD _) _ _) (λj=>?_);rw [gL,W8 c a e,CM.kr _ _ _ _ (CM.qM rD _),gL]
theorem Od (us:List (Nat×List Int)) (b:Nat) (d:List Int):CM.bX [] (us ++ [(b,d)])=CM.put (CM.bX [] us) b d:=by
 rw [pR];rfl
theorem p9:∀{us:List (Nat×List Int)} {ms:CM},CM.Ok ms->(us.map (·.1)).Nodup->(∀x∈us,CM.get ms x.1=none)->(CM.bX ms us).length=ms.length+us.length
 | [],ms,_,_,_=>rfl
 |q :: qs,ms,ho,hn,hd=>by
  rw [List.map_cons,List.nodup_cons] at hn;show (CM.bX (CM.put ms q.1 q.2) qs).length=_;rw [p9 (CM.uZ ho _ _) hn.2 (λx a=>by
   rw [CM.kr _ _ _ _ ho,aA (λ(e:x.1=q.1)=>hn.1 (e▸List.mem_map_of_mem (f:=λx=>x.1) a))];exact hd x (List.mem_cons_of_mem _ a)),CM.sv ho,hd q List.mem_cons_self]
  simp;omega
theorem vu (a:(us.map (·.1)).Nodup):(CM.bX [] us).length=us.length:=by rw [p9 rD a (λ_ _=>rfl)];simp
theorem RZ {b:Nat} (g:i<us.length) (a:us[i].1=b):(us.set i (b,d)).map (·.1)=us.map (·.1):=by
 rw [List.map_set];apply List.ext_getElem
 .simp
 .intro n c f;rw [List.getElem_set];split
  .rename_i e;subst e;simp [a]
  .rfl
theorem ww {b:Nat} (d:i<us.length) (c:us[i].1=b):(fnd us b).isSome=true:=by
 cases h:fnd us b with
 |some _=>rfl
 |none=>
  exfalso;have a:fnd us b=((fnd (us.drop (i+1)) b).or (if us[i].1=b then some us[i].2 else none)).or (fnd (us.take i) b):=by
   have:=E4 (us.take i) (us.drop (i+1)) us[i] b;rwa [<-GX us d] at this
  rw [aE c,h] at a;cases e:fnd (us.drop (i+1)) b <;> rw [e] at a <;> simp at a
theorem IM {b:Nat} (h:∀j (a:j<us.length),us[j].1≠b):fnd us b=none:=uB (λq c=>by
 obtain⟨j,a,rfl⟩:=List.mem_iff_getElem.1 c;exact h j a)
section
section
variable {w w' w1 w2:World} {F X:Nat->Prop} {r s k kl t hm:Nat} {S:DS} {G:SG} {T:TG} {v pv nv tv:Value} {ps us:List (Nat×List Int)} {xs:List Value}
theorem PL.push (h:PL w X v ps xs) {o:Obj} {b:Nat} (A:X g) (z:ay w 5 g c (bs l)) (y:l.length=512/\Bytes l)
    (az:w2.ownsRow 0 166 2 (.slice (some (aD g2 0)) (ps.length+1) bZ) (ps.length+1) (xs ++ [iV (b:Int), .slice (some (aD g 0)) 512 c]))
    (aO:(w.alloc o).grownBy w2 v.ownBlock) (ic:v.ownBlock=some g2\/g2=w.heap.size+1):
  PL w2 (more X w w2) (.slice (some (aD g2 0)) (ps.length+1) bZ) (ps ++ [(b,l)]) (xs ++ [iV (b:Int), .slice (some (aD g 0)) 512 c])/\aa (λj=>v.ownBlock=some j) w w2:=by
 have YA:(w.alloc o).heap.size=w.heap.size+1:=by simp
 have ju:=aO.size;have d:=λj a k=>(aO.block j (by omega) k).trans (Below.heap_alloc _ _ _ a);have Md:∀j c m,ay w 5 j c m->ay w2 5 j c m:=λj c m a=>by
  have AX:=a;obtain⟨cur,ie,_⟩:=AX;exact a.agree (d j a.lt (λe=>dR h.own e.symm ie (by decide) rfl))
 have Rc:=pU az (g:=g2) rfl;have Fb:=h.own.1;refine⟨⟨by rw [dT];exact az,λj a=>?_,λi x=>?_,λq f=>?_⟩,⟨aO.os,aO.tape,aO.output,by omega,λj a k=>d j a (λe=>k e.symm)⟩⟩
 .have e:j=g2:=by simpa [Value.ownBlock] using a.symm
  subst e;rcases ic with n|n
  .exact .inl (h.row _ n)
  .exact .inr ⟨by omega,Rc⟩
 .by_cases nj:i<ps.length
  .obtain⟨u,c',p,r,s,t⟩:=h.put i nj;refine⟨u,c',?_,?_, .inl s,?_⟩
   .rw [List.getElem?_append_left (by omega),p,List.getElem_append_left nj]
   .rw [List.getElem?_append_left (by omega),r]
   .rw [List.getElem_append_left nj];exact Md _ _ _ t
  .have Dm:i=ps.length:=(by simp at x;omega);subst Dm;refine⟨g,c,?_,?_, .inl A,?_⟩
   .rw [List.getElem?_append_right (by omega),show 2*ps.length-xs.length=0 by omega];simp
   .rw [List.getElem?_append_right (by omega),show 2*ps.length+1-xs.length=1 by omega];simp
   .simpa using Md _ _ _ z
 .rcases List.mem_append.1 f with f|f
  .exact h.len q f
  .rw [List.mem_singleton.1 f];exact y
theorem PL.store (h:PL w X v ps xs) {b:Nat} (I:i<ps.length) (D:ps[i].1=b) {o:Nat} (H:X g) (F:ay w 5 g c (bs l)) (E:l.length=512/\Bytes l) (G:v= .slice (some (aD gp 0)) n o):
  PL (w.setCell ⟨gp,i*2+1,none⟩ (.slice (some ⟨g,0,none⟩) 512 c)) X v (ps.set i (b,l)) (xs.set (2*i+1) (.slice (some (aD g 0)) 512 c)):=by
 subst G;obtain⟨_,⟨e,_⟩|⟨p,r,cur,e,x,aZ,y,z,A,C⟩⟩:=h.own
 .cases e
 cases e;have Md:∀j f m,ay w 5 j f m->ay (w.setCell ⟨gp,i*2+1,none⟩ (.slice (some ⟨g,0,none⟩) 512 c)) 5 j f m:=λj f m a=>a.agree (Below.heap_setCell _ _ _ _ (a.ne aZ (by decide)));refine⟨⟨by rw [List.length_set,List.length_set];exact h.own.1, .inr ⟨gp,o,cur.setIfInBounds (i*2+1) (.slice (some (aD g 0)) 512 c),by rw [List.length_set],x,heap_setCell_same _ _ _ _ _ _ aZ,by rw [List.length_set];exact y,z,by rw [Array.size_setIfInBounds];exact A,?_⟩⟩,h.row,λj a=>?_,λq d=>?_⟩
 .rw [List.length_set,Array.toList_setIfInBounds,List.take_set,C,Nat.mul_comm i 2]
 .have Yt:j<ps.length:=by rw [List.length_set] at a;exact a
  by_cases e:j=i
  .subst e;refine⟨g,c,?_,?_,H,?_⟩
   .rw [List.getElem?_set_ne (by omega)];obtain⟨_,_,k,_⟩:=h.put j Yt;rw [k];simp [D]
   .rw [List.getElem?_set_self (by omega)]
   .simpa using Md _ _ _ F
  .obtain⟨p,c',k,s,t,u⟩:=h.put j Yt;refine⟨p,c',?_,?_,t,?_⟩
   .rw [List.getElem?_set_ne (by omega),k,List.getElem_set_ne (λh=>e h.symm)]
   .rw [List.getElem?_set_ne (by omega),s]
   .rw [List.getElem_set_ne (λh=>e h.symm)];exact Md _ _ _ u
 .rcases List.mem_or_eq_of_mem_set d with d|d
  .exact h.len q d
  .rw [d];exact E
end
end
theorem sI (w:World):Calls prog 187 #[.bool true] w λe w'=>e= .returned (.tuple #[])/\w'=w:=by
 go_in;go_wp2
 go_end0
 exact⟨rfl,rfl⟩
abbrev mS:List PanicEntry:= [{v:= .iface 49 (iV 6),recovered:=false}]
theorem Ee (w:World):Calls prog 187 #[.bool false] w λe w'=>e= .panicked mS/\w'=w:=by
 go_in;go_wp2;exact⟨rfl,rfl,rfl⟩
def vv (w:World) (p b o n c k:Nat):Prop:=w.heap[p]? =some (.cells #[.slice (some ⟨b,o,none⟩) n c, .int .i64 (k:Int)] 224 (0,0))
theorem xO (p b o n c k m:Nat) (w:World) (h:vv w p b o n c k) (u:k+m<=n) (v:n<=c) (xJ:k<c) (t:n<=1000000) (mY:c<=9223372036854775807):
  Calls prog 223 #[pQ p,iV (m:Int)] w λe w'=>e= .returned (.slice (some ⟨b,o+k,none⟩) m (c-k))/\vv w' p b o n c (k+m)/\aa (λj=>j=p) w w':=by
 have q:=aL h;have r:=bD h;have s:=ae h 1;have ac4:(m:Int)<=(n:Int)-(k:Int):=by omega
 have bN:IntKind.i64.wrap ((n:Int)-(k:Int))=(n:Int)-(k:Int):=by rw [IntKind.wrap_i64];omega
 have d:(vv (w.setCell ⟨p,1,none⟩ (.int .i64 ((k:Int)+(m:Int)))) p b o n c (k+m)):=by
  show vv _ _ _ _ _ _ _;unfold vv;rw [(heap_setCell_same _ _ 1 _ _ (iV ((k:Int)+(m:Int))) h)];simp
 have a:=(aa.setCell (F:=λj=>j=p) (p:=⟨p,1,none⟩) w rfl (iV ((k:Int)+(m:Int))));go_in;go_wp2_with fail;go_quiet (first|(go_at_call 187;exact Calls.quiet_of_same (sI _)));go_wp2;have f:(0:Int)<=(k:Int):=by omega
 have g:(k:Int)<=(k:Int)+(m:Int):=by omega
 have i:(k:Int)+(m:Int)<=(c:Int):=by omega
 have l:¬c=k:=by omega
 go_quiet (fail);go_wp2;go_ret;exact⟨congrArg (λz=>Ending.returned (Value.slice (some ⟨b,o+k,none⟩) z (c-k))) (Nat.add_sub_cancel_left k m),d,⟨a.os,a.tape,a.output,a.size,a.block⟩⟩
theorem VR (i A X:Nat) (c:A<2 ^ i) (h:A+2 ^ i*X<18446744073709551616):
  bits .or .i64 (wrap64 (A:Int)) (wrap64 ((2 ^ i*X:Nat):Int))=wrap64 ((A+2 ^ i*X:Nat):Int):=by
 have q:∀z:Nat,z<18446744073709551616->(BitVec.ofInt 64 (wrap64 (z:Int))).toNat=z:=by
  intro z d;rw [BitVec.toNat_ofInt];unfold wrap64;omega
 have a:A<18446744073709551616:=by omega
 have b:2 ^ i*X<18446744073709551616:=by omega
 show IntKind.i64.wrap ((BitVec.ofInt 64 (wrap64 (A:Int)) |||BitVec.ofInt 64 (wrap64 ((2 ^ i*X:Nat):Int))).toNat:Int)=_;rw [BitVec.toNat_or,q A a,q _ b,Nat.or_comm,<-Nat.two_pow_add_eq_or_of_lt c X,Nat.add_comm,IntKind.wrap_i64];unfold wrap64;rfl
theorem R0 (x:Int) (k:Nat) (a:k<8):(x*2 ^ min ((8*(k:Int)).toNat) 64)=x*2 ^ (8*k):=by
 congr 2;omega
theorem BC (a:k<l.length) (b:Bytes l):le (l.take (k+1))=le (l.take k)+2 ^ (8*k)*(l.getD k 0).toNat:=by
 rw [List.take_succ_eq_append_getElem a,uI];have:(l.take k).length=k:=by simp;omega
 rw [this];simp [le,List.getD,a]
def part (l:List Int) (k m:Nat):List Int:=(l.drop k).take m
theorem fx {m:Nat} (h:k+m<=l.length):(part l k m).length=m:=by simp [part];omega
theorem dS (h:Bytes l) (k m:Nat):Bytes (part l k m):=λx a=>h x (List.mem_of_mem_drop (List.mem_of_mem_take a))
theorem ud {m:Nat} (a:i<m):(part l k m).getD i 0=l.getD (k+i) 0:=by simp [part,List.getD,a]
structure Rd (w:World) (p b o c k:Nat) (l:List Int):Prop where
 rd:vv w p b o l.length c k
 ne:b≠p
 src:∀i,i<l.length->w.cell? ⟨b,o+i,none⟩=some (.int .u8 (l.getD i 0))
 bytes:Bytes l
 small:l.length<=1000000
 cap:l.length<=c
 Oe:c<=9223372036854775807
 old:0<l.length->b<w.heap.size
theorem Rd.au {b o e:Nat} (h:Rd w p b o c k l) (g:vv w' p b o l.length c e) (d:aa (λj=>j=p) w w'):Rd w' p b o c e l:=
   ⟨g,h.ne,λi f=>by
  exact(World.cell?_of_block (w:=w) (a:=⟨b,o+i,none⟩) (d.block b (h.old (by omega)) h.ne)).trans (h.src i f),h.bytes,h.small,h.cap,h.Oe,λh0=>iP (h.old h0) d.size⟩
theorem Rd.lI {b o:Nat} (h:Rd w p b o c k l) (a:bW w w'):Rd w' p b o c k l:=by
 exact⟨(a.block p ((kN.1 h.rd).1)).trans h.rd,h.ne,λi d=>cell_later a (h.src i d),h.bytes,h.small,h.cap,h.Oe,λh0=>iP (h.old h0) a.size⟩
theorem oE (p b o c k m:Nat) (l:List Int) (w:World) (h:Rd w p b o c k l) (s:k+m<=l.length) (xJ:k<c) (A:m<=8):
  Calls prog 189 #[pQ p,iV (m:Int)] w λe w'=>e= .returned (iV (wrap64 ((le (part l k m):Nat):Int)))/\Rd w' p b o c (k+m) l/\aa (λj=>j=p) w w':=by
 have t:=xO p b o l.length c k m w h.rd s h.cap xJ h.small h.Oe;have H:=yh h;clear h;go_in;go_wp2_with fail;refine fk t λw1 lG eH=>?_;have g:=H.o.au lG eH;have H1:=yh (aF g eH);have pf:=fx s;clear t lG eH g;go_wp2;go_loopw [5,12] (λr i wr=>∃j:Nat,j<=m/\i=iV j/\wr=w1/\r=iV (wrap64 ((le ((part l k m).take j):Nat):Int))) (λ_ i _=>m-(intOf i).toNat);case atStart=>exact⟨0,dU _,rfl,rfl,by simp [le,wrap64]⟩
 case round=>
  obtain⟨j,z,rfl,rfl,rfl⟩:=hrel;by_cases bm:j<m
  .have cw:(j:Int)<(m:Int):=(by omega);have q:=H1.o.1.src (k+j) (by omega);rw [<-ud (l:=l) (k:=k) bm,<-Nat.add_assoc] at q;obtain⟨x,v,jA⟩:∃x:Nat,(part l k m).getD j 0=(x:Int)/\x<256:=by
    have:=dS H1.o.1.bytes k m (part l k m)[j] (List.getElem_mem (by omega));refine⟨((part l k m).getD j 0).toNat,?_,?_⟩<;> simp [List.getD,pf,bm] <;> omega
   have io:=BC (l:=part l k m) (k:=j) (by omega) (dS H1.o.1.bytes k m);have n:le ((part l k m).take j)<2 ^ (8*j):=by
    have:=lg (l:=(part l k m).take j) (λy f=>dS H1.o.1.bytes k m y (List.mem_of_mem_take f));have e:((part l k m).take j).length=j:=(by simp;omega);rwa [e] at this
   have d:le ((part l k m).take (j+1))<18446744073709551616:=by
    have:=lg (l:=(part l k m).take (j+1)) (λy f=>dS H1.o.1.bytes k m y (List.mem_of_mem_take f));have e:((part l k m).take (j+1)).length=j+1:=(by simp;omega);rw [e] at this;exact iP this (by have:=Nat.pow_le_pow_right (show 0<2 by omega) (show 8*(j+1)<=64 by omega);simpa using this)
   rw [v] at q io;simp only [Int.toNat_natCast] at io;rw [io] at d;have MV:=VR (8*j) _ x n d;rw [<-io] at MV;have YP:((x:Int)*2 ^ (8*j))=((2 ^ (8*j)*x:Nat):Int):=(by rw [Int.natCast_mul,Int.natCast_pow,Int.mul_comm];rfl);have tT:((2 ^ (8*j)*x:Nat):Int)=2 ^ (8*j)*(x:Int):=(by rw [Int.natCast_mul,Int.natCast_pow];rfl);rw [tT] at MV;have a:=yh MV;clear n d io MV tT;go_wp2;go_roundw;case rel=>exact⟨j+1,by omega,by go_num,trivial,by rw [a.o]⟩
   case measure=>simp [intOf];omega
  .have cw:¬(j:Int)<(m:Int):=(by omega);have u:(part l k m).take j=part l k m:=nh (by omega);rw [u] at*;go_wp2;go_ret;exact⟨rfl,H1.o⟩
def ue (l:List Int):Prop:=∀x∈l,x=0
def R2 (l:List Int) (e:Ending):Prop:=∃x,e= .returned (.bool x)/\(x=true↔ue l)
theorem CS (b o n c:Nat) (l:List Int) (w:World) (t:l.length=n) (v:n<=1000000) (m:∀i,i<n->w.cell? ⟨b,o+i,none⟩=some (.int .u8 (l.getD i 0))):
  Calls prog 224 #[.slice (some (aD b o)) n c] w λe w'=>R2 l e/\w'=w:=by
 have q:=yh m;clear m;go_in;go_wp2;go_loopw [7] (λi wr=>∃k:Nat,k<=n/\i=iV k/\wr=w/\∀j,j<k->l.getD j 0=0) (λi _=>n-(intOf i).toNat);case atStart=>exact⟨0,dU _,rfl,rfl,λj f=>by omega⟩
 case round=>
  obtain⟨k,u,rfl,rfl,p⟩:=hrel;have g:=yh p;clear p;by_cases bm:k<n
  .have cw:(k:Int)<(n:Int):=(by omega);have s:=q.o k bm;by_cases a:l.getD k 0=0
   .have r:=yh a;rw [a] at s;clear a;go_wp2;go_roundw;case rel=>
     refine⟨k+1,by omega,by go_num,trivial,λj f=>?_⟩;by_cases e:j=k
     .rw [e];exact r.o
     .exact g.o j (by omega)
    case measure=>simp [intOf];omega
   .have T0:(l.getD k 0 != 0)=true:=(by rw [fT];exact a);have d:Yh (¬ue l):=λh=>absurd (h (l.getD k 0) (by simp [List.getD,t,bm])) a;generalize l.getD k 0=X at*;clear a;go_wp2;go_ret;exact⟨⟨_,rfl,⟨(λh=>by cases h),λh=>absurd h d.o⟩⟩,rfl⟩
  .have cw:¬(k:Int)<(n:Int):=(by omega);have d:Yh (ue l):=λx a=>by
    obtain⟨j,f,e⟩:=List.mem_iff_getElem.1 a;have:=g.o j (by omega);rw [<-e];simpa [List.getD,f] using this
   go_wp2;go_ret;exact⟨⟨_,rfl,⟨λ_=>d.o,λ_=>rfl⟩⟩,rfl⟩
theorem Rd.part {b o:Nat} (h:Rd w p b o c k l) {q m:Nat} (d:q+m<=l.length):∀i,i<m->w.cell? ⟨b,o+q+i,none⟩=some (.int .u8 ((part l q m).getD i 0)):=λi a=>by
 rw [ud a,Nat.add_assoc];exact h.src (q+i) (by omega)
theorem CT (p b o c k m:Nat) (l:List Int) (w:World) (h:Rd w p b o c k l) (g:k+m<=l.length) (xJ:k<c) (q:ue (part l k m)):
  Calls prog 190 #[pQ p,iV ((k+m:Nat):Int)] w λe w'=>e= .returned (.tuple #[])/\Rd w' p b o c (k+m) l/\aa (λj=>j=p) w w':=by
 have r:=bD h.rd;have i:=xO p b o l.length c k m w h.rd g h.cap xJ h.small h.Oe;have s:((k+m:Nat):Int)-(k:Int)=(m:Int):=by omega
 have AY:(m:Int)<=1000000:=by have:=h.small;omega
 generalize t:k+m=N at*;go_in;go_wp2_with fail;refine fk i λw1 lG eH=>?_;have d:=h.au lG eH;have f:=CS b (o+k) m (c-k) (part l k m) w1 (fx (by omega)) (by omega) (d.part (by omega));have H1:=(aF d eH);go_wp2_with fail;refine f.mono ?_;rintro e u ⟨⟨x,rfl,n⟩,a⟩;have ez:=a.symm;subst ez;have T0:=n.2 q;subst T0;go_wp2_with fail;refine(sI _).mono ?_;rintro e v ⟨rfl,a⟩;have ez:=a.symm;subst ez;go_wp2
 go_end0
 exact⟨rfl,H1⟩
theorem Of (p b o c k m:Nat) (l:List Int) (w:World) (h:Rd w p b o c k l) (g:k+m<=l.length) (xJ:k<c) (q:¬ue (part l k m)):
  Calls prog 190 #[pQ p,iV ((k+m:Nat):Int)] w λe w'=>e= .panicked mS/\aa (λj=>j=p) w w':=by
 have r:=bD h.rd;have i:=xO p b o l.length c k m w h.rd g h.cap xJ h.small h.Oe;have s:((k+m:Nat):Int)-(k:Int)=(m:Int):=by omega
 have AY:(m:Int)<=1000000:=by have:=h.small;omega
 generalize t:k+m=N at*;go_in;go_wp2_with fail;refine fk i λw1 lG eH=>?_;have d:=h.au lG eH;have f:=CS b (o+k) m (c-k) (part l k m) w1 (fx (by omega)) (by omega) (d.part (by omega));go_wp2_with fail;refine f.mono ?_;rintro e u ⟨⟨x,rfl,n⟩,a⟩;have ez:=a.symm;subst ez;have T0:x=false:=by
  cases x with
  |false=>rfl
  |true=>exact absurd (n.1 rfl) q
 subst T0;go_wp2_with fail;refine(Ee _).mono ?_;rintro e v ⟨rfl,a⟩;have ez:=a.symm;subst ez;go_wp2;exact⟨rfl,rfl,(aF d eH).2⟩
theorem oF (a b:Nat) (e:a<4294967296) (f:b<4294967296):bits .xor .i64 (a:Int) (b:Int)=((a ^^^ b:Nat):Int):=by
 have g:a ^^^ b<2 ^ 32:=Nat.xor_lt_two_pow (by omega) (by omega);have c:(BitVec.ofInt 64 (a:Int)).toNat=a:=by rw [BitVec.ofInt_natCast,BitVec.toNat_ofNat];exact Nat.mod_eq_of_lt (by omega)
 have d:(BitVec.ofInt 64 (b:Int)).toNat=b:=by rw [BitVec.ofInt_natCast,BitVec.toNat_ofNat];exact Nat.mod_eq_of_lt (by omega)
 show IntKind.i64.wrap ((BitVec.ofInt 64 (a:Int) ^^^ BitVec.ofInt 64 (b:Int)).toNat:Int)=_;rw [BitVec.toNat_xor,c,d,IntKind.wrap_i64];omega
theorem Og (b o n c:Nat) (l:List Int) (w:World) (j:Bytes l) (F:l.length=n) (H:n<=140737488355328) (q:∀i,i<n->w.cell? ⟨b,o+i,none⟩=some (.int .u8 (l.getD i 0))):
  Calls prog 119 #[.slice (some (aD b o)) n c] w λe w'=>e= .returned (iV ((sumOf l:Nat):Int))/\bW w w':=by
 have t:=yh q;clear q;unfold sumOf;go_in;go_wp2;go_loopw [3,4] (λr i wr=>∃k:Nat,k<=n/\i=iV k/\wr=w/\r=iV ((mX 4294967295 (l.take k):Nat):Int)) (λ_ i _=>n-(intOf i).toNat);case atStart=>exact⟨0,dU _,rfl,rfl,by simp [sZ]⟩
 case round=>
  obtain⟨k,E,rfl,rfl,rfl⟩:=hrel;by_cases bm:k<n
  .have cw:(k:Int)<(n:Int):=(by omega);have z:=t.o k bm;have mb:k<l.length:=(by omega);obtain⟨x,p,jA⟩:∃x:Nat,l.getD k 0=(x:Int)/\x<256:=by
    have:=j l[k] (List.getElem_mem mb);refine⟨(l.getD k 0).toNat,?_,?_⟩<;> simp [List.getD,mb] <;> omega
   have pz:Bytes (l.take k):=λy C=>j y (List.mem_of_mem_take C);have f:mX 4294967295 (l.take k)<4294967296:=rT (by omega) pz;have fZ:mX 4294967295 (l.take (k+1))=cbs 8 (mX 4294967295 (l.take k) ^^^ x):=by
    rw [List.take_succ_eq_append_getElem mb,xW _ _ pz];congr 2;have:l.getD k 0=l[k]:=(by simp [List.getD,mb]);rw [<-this,p];simp
   have g:=yh fZ;rw [p] at z;generalize v:mX 4294967295 (l.take k)=R at*;have A:R ^^^ x<4294967296:=by
    have:R ^^^ x<2 ^ 32:=Nat.xor_lt_two_pow (by omega) (by omega);omega
   have u:bits .xor .i64 (R:Int) (x:Int)=((R ^^^ x:Nat):Int):=oF _ _ f (by omega);clear fZ v pz f p;go_wp2;go_loopw [3,5] (λr i wx=>∃m:Nat,m<=8/\i=iV m/\wx=wr/\r=iV ((cbs m (R ^^^ x):Nat):Int)) (λ_ i _=>8-(intOf i).toNat);case atStart=>exact⟨0,dU _,rfl,rfl,rfl⟩
   case round=>
    obtain⟨m,G,rfl,rfl,rfl⟩:=hrel;have f:=uH m A;by_cases xw:m<8
    .have Bm:(m:Int)<8:=(by omega);have bz:cb (cbs m (R ^^^ x))=cbs (m+1) (R ^^^ x):=(by rw [sY];rfl);generalize cbs m (R ^^^ x)=S at*;have d:=yh bz;clear bz;have I:(S:Int).tmod 2=((S%2:Nat):Int):=(by rw [Int.tmod_eq_emod_of_nonneg (by omega)];omega);have J:(S:Int).tdiv 2=((S / 2:Nat):Int):=(by rw [Int.tdiv_eq_ediv_of_nonneg (by omega)];omega);rcases Nat.mod_two_eq_zero_or_one S with a|a
     .have D:(((S%2:Nat):Int) == 1)=false:=(by rw [a];rfl);have YM:Yh (cb S=S / 2):=(by show cb S=S / 2;simp [cb,a]);clear a;go_wp2;go_roundw;case rel=>exact⟨m+1,by omega,by go_num,trivial,by rw [<-d.o,YM.o];first|(rw [Int.natCast_ediv];rfl)|rw [s.out]⟩
      case measure=>simp [intOf];omega
     .have D:(((S%2:Nat):Int) == 1)=true:=(by rw [a];rfl);have s:Yh (bits .xor .i64 ((S:Int) / 2) 2197175160=((S / 2 ^^^ 2197175160:Nat):Int)):=oF (S / 2) 2197175160 (by omega) (by omega);have YM:Yh (cb S=S / 2 ^^^ 2197175160):=(by show cb S=S / 2 ^^^ 2197175160;simp [cb,a]);clear a;go_wp2;go_roundw;case rel=>exact⟨m+1,by omega,by go_num,trivial,by rw [<-d.o,YM.o];first|(rw [Int.natCast_ediv];rfl)|rw [s.out]⟩
      case measure=>simp [intOf];omega
    .have Bm:¬(m:Int)<8:=(by omega);have Xi:m=8:=(by omega);subst Xi;go_wp2;go_roundw;case rel=>exact⟨k+1,by omega,by go_num,trivial,by rw [g.o]⟩
     case measure=>simp [intOf];omega
  .have cw:¬(k:Int)<(n:Int):=(by omega);have TZ:l.take k=l:=nh (by omega);have f:mX 4294967295 l<4294967296:=rT (by omega) j;have u:bits .xor .i64 ((mX 4294967295 l:Nat):Int) 4294967295=((mX 4294967295 l ^^^ 4294967295:Nat):Int):=oF (mX 4294967295 l) 4294967295 f (by omega);rw [TZ] at*;go_wp2;go_ret;exact⟨rfl,(yh (bi wr.heap.size wr)).out⟩
theorem KA (a:Option Addr) (c:Nat) (w:World):
  Calls prog 119 #[.slice a 0 c] w λe w'=>e= .returned (iV ((sumOf []:Nat):Int))/\bW w w':=by
 have d:bits .xor .i64 4294967295 4294967295=0:=by decide
 have b:sumOf []=0:=by decide
 rw [b];go_in;go_wp2;refine wp_loop_rounds 1 ?_;rw [rounds_succ];go_wp2;go_ret;exact⟨rfl,bi w.heap.size w⟩
theorem Oh (a:Option Addr) (n c:Nat) (l:List Int) (w:World) (f:Bytes l) (g:n<=140737488355328) (d:Src w a n l):
  Calls prog 119 #[.slice a n c] w λe w'=>e= .returned (iV ((sumOf l:Nat):Int))/\bW w w':=by
 by_cases h0:n=0
 .subst h0;have:l= []:=List.eq_nil_of_length_eq_zero d.1;subst this;exact KA a c w
 .cases a with
  |none=>exact absurd (d.2.1 rfl) h0
  |some x=>
   obtain⟨b,o,rfl,k⟩:=d.spot (by omega);exact Og b o n c l w f d.1 g k
theorem GY (x:Int) (h:w.heap[g]? =some (.cells (bs l).toArray 5 (0,0))):
    (w.setCell ⟨g,i,none⟩ (.int .u8 x)).heap[g]? =some (.cells (bs (l.set i x)).toArray 5 (0,0)):=by
 rw [heap_setCell_same _ _ _ _ _ _ h];congr 2;apply Array.ext';simp [bs,List.map_set]
def Full (w:World) (g:Nat) (l:List Int):Prop:=w.heap[g]? =some (.cells (bs l).toArray 5 (0,0))
theorem qU (g N c:Nat) (A X C:List Int) (a n v:Nat) (w:World) (h:Full w g (A ++ (X ++ C))) (t:A.length=a) (G:X.length=n) (b:(A ++ (X ++ C)).length=N) (E:N<=1000000) (x:v<=9223372036854775807):
  Calls prog 118 #[.slice (some (aD g 0)) N c,iV (a:Int),iV (n:Int),iV (v:Int)] w λe w'=>e= .returned (.tuple #[])/\Full w' g (A ++ (leb n v ++ C))/\aa (λj=>j=g) w w':=by
 have q:a+n<=N:=by simp at b;omega
 go_in;go_wp2;go_loopw [3,8] (λr i wr=>∃k:Nat,k<=n/\i=iV k/\r=iV ((v / 256 ^ k:Nat):Int)/\Full wr g (A ++ ((leb k v ++ X.drop k) ++ C))/\aa (λj=>j=g) w wr) (λ_ i _=>n-(intOf i).toNat);case atStart=>exact⟨0,dU _,rfl,by simp,by simpa [leb] using h,aa.refl _ _⟩
 case round=>
  obtain⟨k,D,rfl,rfl,aZ,xM⟩:=hrel;by_cases bm:k<n
  .have cw:(k:Int)<(n:Int):=(by omega);have s:v / 256 ^ k<=9223372036854775807:=jQ (Nat.div_le_self _ _) x;have m:v / 256 ^ (k+1)=v / 256 ^ k / 256:=(by rw [Nat.div_div_eq_div_mul,Nat.pow_succ]);have d:(A ++ ((leb k v ++ X.drop k) ++ C)).length=N:=(by rw [<-b];simp [aH];omega);obtain⟨u0,y⟩:∃u,wr.cell? ⟨g,a+k,none⟩=some u:=⟨_,aj aZ (j:=a+k) (u:=(bs (A ++ ((leb k v ++ X.drop k) ++ C)))[a+k]'(by simp only [bs,List.length_map];omega)) (by simp [bs])⟩;have z:=ae aZ (a+k);have oT:=GY (i:=a+k) ((v / 256 ^ k%256:Nat):Int) aZ;have o:(A ++ ((leb k v ++ X.drop k) ++ C)).set (a+k) ((v / 256 ^ k%256:Nat):Int)=A ++ ((leb (k+1) v ++ X.drop (k+1)) ++ C):=by
    rw [List.set_append_right _ _ (by omega),t,show a+k-a=k by omega,List.append_assoc,List.set_append_right _ _ (by rw [aH];omega),aH,Nat.sub_self,vo];rw [List.drop_eq_getElem_cons (show k<X.length by omega),List.cons_append,List.set_cons_zero];simp
   rw [o] at oT;have l:=(xM.trans (aa.setCell (F:=λj=>j=g) (p:=⟨g,a+k,none⟩) wr rfl (.int .u8 ((v / 256 ^ k%256:Nat):Int))) (λ_ h=> .inl h));generalize v / 256 ^ k=Q at*;have H:(Q:Int).tmod 256=((Q%256:Nat):Int):=(by rw [Int.tmod_eq_emod_of_nonneg (by omega)];omega);have I:(Q:Int).tdiv 256=((Q / 256:Nat):Int):=(by rw [Int.tdiv_eq_ediv_of_nonneg (by omega)];omega);go_wp2;go_roundw;case rel=>exact⟨k+1,by omega,by go_num,by rw [m];simp,oT,l⟩
   case measure=>simp [intOf];omega
  .have cw:¬(k:Int)<(n:Int):=(by omega);have TZ:k=n:=(by omega);have f:(Full wr g (A ++ (leb n v ++ C))/\aa (λj=>j=g) w wr):=by
    refine⟨?_,xM⟩;rw [TZ,List.drop_of_length_le (by omega),List.append_nil] at aZ;exact aZ
   go_wp2
   go_end0
   exact⟨rfl,f⟩
theorem sJ (l q m r n c d:Nat) (b a:List Int) (w:World) (cm:b.length=n) (fy:a.length=n) (z:n<=1000000) (u:∀i,i<n->w.cell? ⟨l,q+i,none⟩=some (.int .u8 (b.getD i 0))) (v:∀i,i<n->w.cell? ⟨m,r+i,none⟩=some (.int .u8 (a.getD i 0))):
  Calls prog 133 #[.slice (some (aD l q)) n c, .slice (some (aD m r)) n d] w λe w'=>e= .returned (.bool (decide (b=a)))/\bW w w':=by
 go_in;go_wp2;go_loopw [5] (λi wr=>∃k:Nat,k<=n/\i=iV k/\bW w wr/\∀j,j<k->b.getD j 0=a.getD j 0) (λi _=>n-(intOf i).toNat);case atStart=>exact⟨0,dU _,rfl,bi _ _,λj x=>by omega⟩
 case round=>
  obtain⟨k,y,rfl,f,pK⟩:=hrel;have adJ:=yh pK;by_cases bm:k<n
  .have p:=cell_later f ((yh u).out k bm);have t:=cell_later f ((yh v).out k bm);have cw:(k:Int)<(n:Int):=(by omega);by_cases g:b.getD k 0=a.getD k 0
   .have s:=yh g;rw [g] at p;have wi:(a.getD k 0 != a.getD k 0)=false:=(by simp);generalize a.getD k 0=X at p t wi;go_wp2;go_quiet (fail);go_wp2;go_roundw;case rel=>
     refine⟨k+1,by omega,by go_num,below_drewN f _,λj x=>?_⟩;by_cases e:j=k
     .rw [e];exact s.o
     .exact adJ.o j (by omega)
    case measure=>simp [intOf];omega
   .have hd:decide (b=a)=false:=by
     rw [decide_eq_false_iff_not];intro e;exact g (by rw [e])
    have dG:(b.getD k 0 != a.getD k 0)=true:=(by rw [fT];exact g);generalize b.getD k 0=X at*;generalize a.getD k 0=Y at*;go_wp2;go_quiet (fail);go_wp2;go_ret;exact⟨by rw [(yh hd).out];rfl,below_drewN f _⟩
  .have cw:¬(k:Int)<(n:Int):=(by omega);have hd:Yh (decide (b=a)=true):=by
    show decide (b=a)=true;rw [decide_eq_true_iff];apply List.ext_getElem (by omega);intro i Xa Dm;have:=adJ.o i (by omega);simpa [List.getD,Xa,Dm] using this
   go_wp2;go_ret;exact⟨by rw [hd.out];rfl,f⟩
section
def fA (w:World) (X:Nat->Prop) (k t:Nat) (G:SG) (tv:Value) (r:Int×TG) (e:Ending) (w':World):Prop:=
 e= .returned (iV r.1)/\(∃tv' KB,nT w' (more X w w') k t G r.2 tv' KB/\(tv'.ownBlock=tv.ownBlock\/∀g,tv'.ownBlock=some g->w.heap.size<=g))/\aa (λj=>j=t\/tv.ownBlock=some j) w w'
section
variable {w w' w1 w2:World} {F X:Nat->Prop} {r s k kl t hm:Nat} {S:DS} {G:SG} {T:TG} {v pv nv tv:Value} {ps us:List (Nat×List Int)} {xs:List Value}
theorem nT.mono {Y:Nat->Prop} (h:nT w X k t G T tv us) (a:∀g,X g->Y g):nT w Y k t G T tv us:=⟨h.tx,a _ h.xt,h.pl.mono a,h.nd,h.pu,h.kb,h.D6⟩
theorem fA.same (b:nT w X k t G T tv us) (a:bW w w') (x:Int):fA w X k t G tv (x,T) (.returned (iV x)) w':=
   ⟨rfl,⟨tv,us,(b.later a).mono (λ_ h=> .inl h), .inl rfl⟩,aa.ah _ a⟩
theorem fA.spoilt (c:nT w X k t G T tv us) (a:bW w w1) (x:Int):fA w X k t G tv (x,{T with bad:=x}) (.returned (iV x)) (w1.setCell ⟨t,3,none⟩ (.int .i64 x)):=by
 have h:=c.later a;have b:=aa.setCell (F:=λj=>j=t) w1 (p:=(aD t 3)) rfl (iV x);refine⟨rfl,⟨tv,us,⟨h.tx.bad x, .inl h.xt,(h.pl.other h.tx (by decide) (by decide) b).mono (λ_ h=> .inl h),h.nd,h.pu,h.kb,h.D6⟩, .inl rfl⟩,(aa.ah _ a).trans b (λ_ h=> .inl (.inl h))⟩
theorem nf.puts (h:nf w t k tv T) (v:Value):nf (w.setCell ⟨t,1,none⟩ v) t k v T:=(heap_setCell_same _ _ 1 _ _ _ h).trans (by simp)
theorem fA.set (C:nT w X k t G T tv us) (s:T.ended=false) (m:bW w w1) {b:Nat} (d:i<us.length) (f:us[i].1=b) (u:w.heap.size<=g) (q:ay w1 5 g 512 (bs l)) (v:l.length=512/\Bytes l) (r:tv= .slice (some (aD gp 0)) n c):
  fA w X k t G tv (0,{T with puts:=CM.put T.puts b l}) (.returned (iV 0)) (w1.setCell ⟨gp,i*2+1,none⟩ (.slice (some ⟨g,0,none⟩) 512 512)):=by
 have h:=C.later m;obtain⟨xs,A⟩:=h.pl;have uK:=(A.mono (Y:=more X w w1) (λ_ h=> .inl h)).store d f (.inr ⟨u,q.lt⟩) q v r;have ef:(w1.setCell ⟨gp,i*2+1,none⟩ (.slice (some ⟨g,0,none⟩) 512 512)).heap.size=w1.heap.size:=by simp [World.setCell]
 have z:more X w (w1.setCell ⟨gp,i*2+1,none⟩ (.slice (some ⟨g,0,none⟩) 512 512))=more X w w1:=by unfold more;rw [ef]
 have az:tv.ownBlock=some gp:=by rw [r];rfl
 have o:=aa.setCell (F:=λj=>tv.ownBlock=some j) w1 (p:=⟨gp,i*2+1,none⟩) az (.slice (some (aD g 0)) 512 512);refine⟨rfl,⟨tv,us.set i (b,l),?_, .inl rfl⟩,(aa.ah _ m).trans o (λ_ h=> .inl (.inr h))⟩;rw [z];refine⟨h.tx.au o (λe=>h.pl.ne e h.tx (by decide) rfl), .inl h.xt,⟨_,uK⟩,by rw [RZ d f];exact h.nd,λ_=>?_,λx a=>?_,by rw [List.length_set];exact h.D6⟩
 .show CM.put T.puts b l=_;rw [RY d f h.nd,h.pu s]
 .rcases List.mem_or_eq_of_mem_set a with a|a
  .exact h.kb x a
  .have:=h.kb _ (List.getElem_mem d);rw [a];show b<G.y.blocks;omega
theorem fA.push (r:nT w X k t G T tv us) (s:T.ended=false) (d:bW w w1) {o:Obj} {b:Nat} (kv:b<G.y.blocks) (z:PL w1 X tv us xs) (u:w.heap.size<=g) (n:ay w1 5 g 512 (bs l)) (v:l.length=512/\Bytes l) (iZ:fnd us b=none) (ZE:us.length<16)
    (az:w2.ownsRow 0 166 2 (.slice (some (aD g2 0)) (us.length+1) bZ) (us.length+1) (xs ++ [iV (b:Int), .slice (some (aD g 0)) 512 512]))
    (aO:(w1.alloc o).grownBy w2 tv.ownBlock) (ic:tv.ownBlock=some g2\/g2=w1.heap.size+1):
  w2.heap[t]? =w.heap[t]?/\fA w X k t G tv (0,{T with puts:=CM.put T.puts b l}) (.returned (iV 0)) (w2.setCell ⟨t,1,none⟩ (.slice (some ⟨g2,0,none⟩) (us.length+1) bZ)):=by
 have h:=r.later d;have D:=d.size;obtain⟨uK,aX⟩:=PL.push (b:=b) (z.mono (Y:=more X w w1) (λ_ h=> .inl h)) (.inr ⟨u,n.lt⟩) n v az aO ic;have ec:=aX.size;have Af:=h.tx.au aX (λe=>h.pl.ne e h.tx (by decide) rfl);have m:=aa.setCell (F:=λj=>j=t) w2 (p:=(aD t 1)) rfl (.slice (some (aD g2 0)) (us.length+1) bZ);have ef:(w2.setCell ⟨t,1,none⟩ (.slice (some ⟨g2,0,none⟩) (us.length+1) bZ)).heap.size=w2.heap.size:=by simp [World.setCell]
 refine⟨(aX.block t h.tx.lt (λe=>h.pl.ne e h.tx (by decide) rfl)).trans (d.block t r.tx.lt),rfl,⟨_,us ++ [(b,l)],⟨Af.puts _, .inl h.xt,(Pl.other ⟨_,uK⟩ Af (by decide) (by decide) m).mono (λj a=>?_),?_,λ_=>?_,λx c=>?_,by rw [dT];simp;omega⟩,?_⟩,((aa.ah _ d).trans aX (λ_ h=> .inl (.inr h))).trans m (λ_ h=> .inl (.inl h))⟩
 .rcases a with (a|a)|a
  .exact .inl a
  .exact .inr ⟨a.1,by rw [ef];omega⟩
  .exact .inr ⟨by omega,by rw [ef];exact a.2⟩
 .rw [List.map_append,List.nodup_append];refine⟨h.nd,by simp,λx c y C e=>?_⟩;obtain⟨q,A,rfl⟩:=List.mem_map.1 c;have f:y=b:=by simpa using C
  subst f;obtain⟨j,a,rfl⟩:=List.mem_iff_getElem.1 A;have:=ww a e;rw [iZ] at this;cases this
 .show CM.put T.puts b l=_;rw [Od,h.pu s]
 .rcases List.mem_append.1 c with c|c
  .exact h.kb x c
  .rw [List.mem_singleton.1 c];exact kv
 .rcases ic with i|i
  .exact .inl i.symm
  .refine .inr (λj a=>?_);have e:j=g2:=(by simpa [Value.ownBlock] using a.symm);omega
end
end
section
section
variable {w w' w1 w2:World} {F X:Nat->Prop} {r s k kl t hm:Nat} {S:DS} {G:SG} {T:TG} {v pv nv tv:Value} {ps us:List (Nat×List Int)} {xs:List Value}
theorem Pl.frz (h:Pl w X v ps) (a:v.ownBlock=some g) (j:Nat):w.frozen? (aD g j)=false:=by
 obtain⟨xs,h⟩:=h;obtain⟨_,⟨rfl,_⟩|⟨d,b,cur,rfl,_,c,_⟩⟩:=h.own
 .simp [Value.ownBlock] at a
 .simp [Value.ownBlock] at a;subst a;exact ae c j
set_option maxRecDepth 100000 in
theorem R3 (hd:aB w F r s S) (h:iz w F X r s S k kl G pv ps hm nv) (u:nT w X k t G T tv us) (b:Int) (a:Option Addr) (x c:Nat) (d:List Int) (K:Src w a x d) (hx:x<=140737488355328) (wX:Bytes d) (aT:S.puts.length<=4000000000000) (VE:ps.length<=4000000000000):
  Calls prog 82 #[pQ t,iV b, .slice a x c] w λe w'=>fA w X k t G tv (T.put G S b d) e w':=by
 have z:=j5 hd h u.tx;have Fb:=K.1;obtain⟨R,n⟩:=bQ (T.put G S b d);rw [<-n];unfold TG.put at n;by_cases q:T.state G S=0
 .have dq:(T.state G S != 0)=false:=by rw [q];rfl
  by_cases q1:b<0
  .have A:T.refusal G S b=11:=(by unfold TG.refusal;rw [aA (λh=>h q),aE (.inl q1)]);rw [A,aE (by decide)] at n;obtain⟨C,f⟩:=bL n u;clear A n q;generalize T.state G S=E at*;clear h u hd K;go_in;go_wp2_with fail;refine bE z λw1 aq=>?_;have L:=yh aq;clear z aq;go_wp2;go_ret;rw [C.o];exact fA.same f.o L.o 11
  .by_cases q2:(G.y.blocks:Int)<=b
   .have A:T.refusal G S b=11:=(by unfold TG.refusal;rw [aA (λh=>h q),aE (.inr q2)]);rw [A,aE (by decide)] at n;obtain⟨C,f,O⟩:=jS n u h.st;clear A n q;generalize T.state G S=E at*;clear h u hd K;go_in;go_wp2_with fail;refine bE z λw1 aq=>?_;have c0:=(f.o.tx.later aq).c0;have c4:=(O.o.later aq).c4;have L:=yh aq;clear z aq;go_wp2;go_ret;rw [C.o];exact fA.same f.o L.o 11
   .have A:T.refusal G S b=0:=(by unfold TG.refusal;rw [aA (λh=>h q),aA (λh=>h.elim q1 q2)]);rw [A,aA (λh=>h rfl)] at n;obtain⟨r1,r2,_,_,_⟩:=iK A;obtain⟨b,rfl⟩:∃b':Nat,b=(b':Int):=⟨b.toNat,by omega⟩;rw [Int.toNat_natCast] at n;have hb:b<G.y.blocks:=(by omega);by_cases q3:x=512
    .subst q3;rw [aA (λh=>h Fb)] at n;have hG:=λ(w1:World) (aq:bW w w1)=>Ae (hd.later aq) (h.later aq) (u.later aq) (b:Int) aT VE;rw [A,Int.toNat_natCast] at hG;have mL:(T.jN G S b).length=512:=by
      unfold TG.jN;rw [u.pu r2,gL];cases hf:fnd us b with
      |none=>exact iz.ZN hd h hb
      |some l=>exact(u.pl.len _ (EZ hf)).1
     obtain⟨ab,ao,rfl⟩:=cT K (by omega);have XO:=λ(H:World) (aW:bW w H) (g:Nat) (N:ay H 5 g 512 (bs (T.jN G S b)))=>sJ g 0 ab ao 512 512 c (T.jN G S b) d H mL Fb (by omega) (λi hi=>by have:=N.src.2.2 _ rfl i (by rw [mL];exact hi);rwa [aK] at this) (λi hi=>by have:=(K.later aW).2.2 _ rfl i hi;rwa [aK] at this);have Me:=λ(H:World) (aW:bW w H)=>lH (some (aD ab ao)) 512 c d H (by omega) (K.later aW);obtain⟨f,O,HG,U,WU,sB⟩:=kQ (yh u) (yh h.st) (yh hG) (yh XO) (yh Me) (u.pu r2);have adK:CM.get T.puts b=fnd us b:=(by rw [sB,gL]);have adL:T.puts.length=us.length:=(by rw [sB,vu u.nd]);rw [adK,adL] at n;clear A XO Me hG q sB adK adL r1;generalize T.state G S=E at*;clear h u hd K;by_cases Q:d=T.jN G S b
     .have dd:decide (T.jN G S b=d)=true:=(by rw [<-Q];simp);rw [aE Q] at n;have C:=yh n;clear n Q;go_in;go_wp2_with fail;refine bE z λw1 aq=>?_;have c0:=(f.o.tx.later aq).c0;have c4:=(O.o.later aq).c4;have Y:=HG.o w1 aq;have cN:=yh aq;clear z aq;go_wp2_with fail;refine Y.mono ?_;rintro e H ⟨M,aW⟩;unfold qT at M;rw [aA (λh=>h rfl)] at M;obtain⟨g,rfl,fU,N⟩:=M;have KC:=cN.o.trans (aW.mono cN.o.size);have km:=U.o H KC g N;rw [dd] at km;have R4:=yh KC;clear Y aW N KC;go_wp2_with fail;refine bE km λw3 bz=>?_;have fS:=yh (R4.o.trans (bz.mono R4.o.size));clear km bz;go_wp2;go_ret;rw [C.o];exact fA.same f.o fS.o 0
     .have dd:decide (T.jN G S b=d)=false:=(by rw [decide_eq_false_iff_not];exact λe=>Q e.symm);rw [aA Q] at n;have C:=yh n;clear n Q;go_in;go_wp2_with fail;refine bE z λw1 aq=>?_;have c0:=(f.o.tx.later aq).c0;have c4:=(O.o.later aq).c4;have Y:=HG.o w1 aq;have cN:=yh aq;clear z aq;go_wp2_with fail;refine Y.mono ?_;rintro e H ⟨M,aW⟩;unfold qT at M;rw [aA (λh=>h rfl)] at M;obtain⟨g,rfl,fU,N⟩:=M;have KC:=cN.o.trans (aW.mono cN.o.size);have km:=U.o H KC g N;rw [dd] at km;have R4:=yh KC;clear Y aW N KC;go_wp2_with fail;refine bE km λw3 bz=>?_;have fS:=yh (R4.o.trans (bz.mono R4.o.size));clear km bz;obtain⟨ua,uc,htv,ll⟩:=(f.o.later fS.o).pl.form;subst htv;have c1:=(f.o.tx.later fS.o).c1;have adI:=f.o.D6;have adM:=yh ll;clear ll c0 c4;go_wp2;go_loopw [10] (λi wr=>∃j:Nat,j<=us.length/\i=iV (j:Int)/\wr=w3/\∀m (hm:m<us.length),m<j->us[m].1≠b) (λi _=>us.length-(intOf i).toNat);case atStart=>exact⟨0,dU _,rfl,rfl,λm hm h=>by omega⟩
      case round=>
       obtain⟨j,hj,rfl,rfl,iZ⟩:=hrel;have nS:=yh iZ;clear iZ;by_cases qj:j<us.length
       .have ZO:(j:Int)<(us.length:Int):=(by omega);obtain⟨J,rfl,hp⟩:=adM.o (by omega);obtain⟨gj,cj,p1,p2,_,_⟩:=hp j qj;clear hp;by_cases P:us[j].1=b
        .rw [P] at p1;have nK:=f.o.tx.later fS.o;obtain⟨uE,adN,Ag,zc,HU⟩:=ey ((f.o.pl.later fS.o).ne (g:=J) rfl nK (by decide)) ((f.o.pl.later fS.o).rlt J rfl) nK.lt (yh (ww qj P)) (yh P);clear nK P;go_wp2_with fail;go_region_held3 (λw'=>w'.cell? (aD t 1)=some (.slice (some (aD J 0)) us.length uc))
          (first|exact c1|exact Z|exact k5)
            ((go_at_call 97;refine(yh (WU.o wr.drew (ai fS.o))).out.mono ?_;rintro e D ⟨g4,rfl,Gi,ub,fe⟩;have nL:bW wr D:=(ai (bi wr.heap.size wr)).trans fe;have Z:=iu nL Ag c1;have ks:=iu nL adN p2;have fs:=(nL.frozen (p:=⟨J,j*2+1,none⟩) adN).trans ((f.o.pl.later fS.o).frz (g:=J) rfl (j*2+1));have k5:(D.setCell ⟨J,j*2+1,none⟩ (.slice (some ⟨g4,0,none⟩) 512 512)).cell? (aD t 1)=some (.slice (some (aD J 0)) us.length uc):=(di (aa.setCell (F:=λj=>j=J) D (p:=⟨J,j*2+1,none⟩) rfl _) (λe=>uE e.symm) Z)))
         all_goals
          obtain⟨jB,Vo⟩:=bL (fS.o.trans (nL.mono fS.o.size)) ub;clear fe nL ub Z ks fs k5;go_wp2;go_ret;rw [C.o,aA (λh=>by rw [zc.o] at h;cases h.1)];exact fA.set f.o r2 jB.o qj HU.o (jQ fS.o.size Gi) Vo.o ⟨Fb,wX⟩ rfl
        .have dG:(((us[j].1:Nat):Int) == (b:Int))=false:=(by rw [eG];omega);have J8:∀m (hm:m<us.length),m<j+1->us[m].1≠b:=λm hm h=>by
          by_cases e:m=j
          .subst e;exact P
          .exact nS.o m hm (by omega)
         have Zg:=yh J8;clear J8 P;go_wp2;go_roundw;case rel=>exact⟨j+1,by omega,by go_num,trivial,Zg.o⟩
         case measure=>simp [intOf];omega
       .have ZO:¬(j:Int)<(us.length:Int):=(by omega);have XP:=yh (IM (us:=us) (b:=b) (λm hm=>nS.o m hm (by omega)));by_cases ZP:us.length=16
        .have d16:((us.length:Int) == 16)=true:=(by rw [beq_iff_eq];omega);have H16:=yh ZP;have nK:=f.o.tx.later fS.o;have c3:=nK.c3;have f3:=nK.fz 3;clear nK ZP;go_wp2;go_ret;rw [C.o,XP.out,aE ⟨rfl,H16.o⟩];exact fA.spoilt f.o fS.o 50
        .have d16:((us.length:Int) == 16)=false:=(by rw [eG];omega);have XQ:¬((fnd us b).isSome=false/\us.length=16):=λh=>ZP h.2;have aje:=yh XQ;have ZE:us.length<16:=(by omega);obtain⟨xs,Ns⟩:=f.o.pl.later fS.o;obtain⟨i0,rt,gv,dr,ec⟩:=info_parts pT;have nK:=f.o.tx.later fS.o;have Ag:=nK.lt;have Me:Calls prog 97 #[.slice (some (aD ab ao)) 512 c] wr.drew λe w'=>∃v,e= .returned v/\TwR wr d v w':=
            (WU.o wr.drew (ai fS.o)).mono (by rintro e w' ⟨g,rfl,z,h2,W⟩;exact⟨_,rfl,g,rfl,z,h2,⟨W.os,W.tape,W.output,W.size,W.block⟩⟩)
         have du:∀wx:World,wx.heap[t]? =wr.heap[t]?->wx.cell? (aD t 1)=some (.slice ua us.length uc):=λwx e=>bD (e.trans nK);have adO:∀wx:World,wx.heap[t]? =wr.heap[t]?->wx.frozen? (aD t 1)=false:=λwx e=>ae (e.trans nK) 1;obtain⟨Htw,pS,Hfz,I⟩:=Bg Me du adO Ns;clear Me du adO Ns nK ZP XQ;go_wp2_with fail
         go_region_law
          (first
           |(refine u9 (by rfl) 97 #[.slice (some (aD ab ao)) 512 c] (by simp [go_sem]) (TwR wr d) Htw.o ?_;rintro _ D ⟨g4,rfl,Gi,ub,fe⟩;have lG:D.heap[t]? =wr.heap[t]? :=fe.block t Ag;have Z:=pS.o D lG;have k2:=λo=>pS.o (D.alloc o) ((Below.heap_alloc D o t (iP Ag fe.size)).trans lG))
           |(refine step_append_lies _ (by rfl) _ _ _ (by rfl) 0 166 i0 _ 2 32 underlying127 rt gv dr ec rfl (by omega) (.slice ua us.length uc) us.length xs (by rfl) (aC I.o.own (λg e=>(Below.heap_alloc D _ _ (iP (pU I.o.own e) fe.size)).trans (fe.block g (pU I.o.own e))))
               (aD D.heap.size 0) 1 1 [iV (b:Int), .slice (some (aD g4 0)) 512 512] (by rfl) (by rfl) (World.news_of_block (cs:= #[iV (b:Int), .slice (some (aD g4 0)) 512 512]) (t:=166) (fr:=(0,0)) (heap_alloc_new D _)) (by simp [Value.oneCell']) (by omega) (by unfold maxLen;omega) (by omega) (dU _) (D.heap.size+1) (by simp) ?_;intro g2 bZ w5 fE jU uL oS;obtain⟨Fa,jz⟩:=fA.push f.o r2 (fS.o.trans (fe.mono fS.o.size)) hb (I.o.au (aa.ah (λ_=>False) fe) (λ_ _ h=>h) (λ_ _ _ _ _ h=>h)) (jQ fS.o.size Gi) ub ⟨Fb,wX⟩ XP.out ZE fE jU uL;have ZQ:=Fa.trans (fS.o.block t f.o.tx.lt).symm;have k3:=pS.o w5 ZQ;have f3:=Hfz.o w5 ZQ))
         all_goals
          have mR:=yh jz;clear jz ub fe fE jU uL oS lG Fa ZQ Z k2 k3 f3;go_wp2;go_ret;rw [C.o,aA aje.o];exact mR.o
    .have NH:¬d.length=512:=(by rw [Fb];exact q3);rw [aE NH] at n;have dx:((x:Int) != 512)=true:=(by rw [fT];omega);obtain⟨C,f,O⟩:=jS n u h.st;clear A n q r1 r2;generalize T.state G S=E at*;clear h u hd K;go_in;go_wp2_with fail;refine bE z λw1 aq=>?_;have c0:=(f.o.tx.later aq).c0;have c4:=(O.o.later aq).c4;have L:=yh aq;clear z aq;go_wp2;go_ret;rw [C.o];exact fA.same f.o L.o 2
 .have dq:(T.state G S != 0)=true:=by rw [fT];exact q
  have A:T.refusal G S b=T.state G S:=by unfold TG.refusal;rw [aE q]
  rw [A,aE q] at n;obtain⟨C,f⟩:=bL n u;clear A n q;generalize T.state G S=E at*;clear h u hd K;go_in;go_wp2_with fail;refine bE z λw1 aq=>?_;have L:=yh aq;clear z aq;go_wp2;go_ret;rw [C.o];exact fA.same f.o L.o _
end
end
section
section
variable {w w':World} {F G:Nat->Prop} {r s k:Nat} {S:DS} {L:LG}
theorem aB.join {w:World} (h:aB w2 (Go.Proofs.YtenlkgicpllbhaaGreat.more (Go.Proofs.YtenlkgicpllbhaaGreat.more F w w1) w1 w2) r s S) (c:∀k,F k->k<w.heap.size) (a:w.heap.size<=w1.heap.size) (b:w1.heap.size<=w2.heap.size):aB w2 (Go.Proofs.YtenlkgicpllbhaaGreat.more F w w2) r s S:=
 h.mono (uV a b) (cG c (by omega))
theorem aB.from {w:World} (h:aB w2 (Go.Proofs.YtenlkgicpllbhaaGreat.more F w1 w2) r s S) (b:∀k,F k->k<w.heap.size) (c:w.heap.size<=w1.heap.size) (d:w1.heap.size<=w2.heap.size):aB w2 (Go.Proofs.YtenlkgicpllbhaaGreat.more F w w2) r s S:=
 h.mono (λk a=>by
  rcases a with a|a
  .exact .inl a
  .exact .inr ⟨by omega,a.2⟩) (cG b (by omega))
theorem VT {f:Nat} {num:Int} (h0:(aN (S.now f) (S.now (f+1)) num []).2.2=0) (b:f+1<s):
  cW S s f num=if (S.wr s ((f:Int)+((aN (S.now f) (S.now (f+1)) num []).1:Int)) 512 (aN (S.now f) (S.now (f+1)) num []).2.1).1≠0 then (3,(S.wr s ((f:Int)+((aN (S.now f) (S.now (f+1)) num []).1:Int)) 512 (aN (S.now f) (S.now (f+1)) num []).2.1).2)
   else (S.wr s ((f:Int)+((aN (S.now f) (S.now (f+1)) num []).1:Int)) 512 (aN (S.now f) (S.now (f+1)) num []).2.1).2.fl s:=by
 have mL:=fL (S.now f) (S.now (f+1)) num [];unfold cW;by_cases a:S.fuse=0
 .rw [aE a];unfold DS.wr;simp only [aE a];rw [aE (by decide)]
 .rw [aA a,aA (by omega)];have e:(S.wr s ((f:Int)+((aN (S.now f) (S.now (f+1)) num []).1:Int)) 512 (aN (S.now f) (S.now (f+1)) num []).2.1).1=0:=by
   unfold DS.wr;rw [aA a,aA (by omega),aA (by omega)]
  rw [aA (by omega),aA (by omega)]
theorem oG (h:aB w F r s S) (f E T:Nat) (hE:E<=1073741824) (hT:T<=1073741824) (aT:S.puts.length+2<=4000000000000) (J:f+1<s) (cZ:S.fC) (h0:(aN (S.now f) (S.now (f+1)) ((E:Int)*4294967296+T) []).2.2=0):
  Calls prog 117 #[pQ r,iV (f:Int),iV (E:Int),iV (T:Int)] w λe w'=>e= .returned (iV (cW S s f ((E:Int)*4294967296+T)).1)/\aB w' (more F w w') r s (cW S s f ((E:Int)*4294967296+T)).2/\aa F w w':=by
 have q:=jF h f (by omega) (by omega);have n:=jF h (f+1) J (by omega);rw [show ((f+1:Nat):Int)=(f:Int)+1 by omega] at n;have dh:=h.ok;have iQ:=br dh f (by omega);have mg:=br dh (f+1) J;have mL:=fL (S.now f) (S.now (f+1)) ((E:Int)*4294967296+T) [];have Ff:=kD (S.now f) (S.now (f+1)) ((E:Int)*4294967296+T) [] h0;rw [VT h0 J];have M:=yh (λP W k Q X m w1 c d=>JM P W k (S.now f) Q X m (S.now (f+1)) none 0 0 [] ((E:Int)*4294967296+T) w1 c d (cZ.now f) (cZ.now (f+1)) ⟨rfl,λ_=>rfl,λx K=>by cases K⟩ (λx K=>by cases K) (by omega));have Mb:=dh.hi;have t:=yh h;have VU:∀(l:List Int),(S.wr s ((f:Int)+((aN (S.now f) (S.now (f+1)) ((E:Int)*4294967296+T) []).1:Int)) 512 l).2.puts.length<=S.puts.length+1:=λl=>i9 _ _ _ _ _;generalize U:aN (S.now f) (S.now (f+1)) ((E:Int)*4294967296+T) []=Y at*;clear h U cZ;obtain⟨Z,I⟩:∃Z,Z=S.wr s ((f:Int)+(Y.1:Int)) 512 Y.2.1:=⟨_,rfl⟩;have L:=VU Y.2.1;rw [<-I] at L⊢;obtain⟨N,ib⟩:=bL I t.o.lt;clear I VU;by_cases p:Z.1=0
 .rw [aA (by omega)];have R:(Z.1 == 0)=true:=by rw [beq_iff_eq];exact p
  clear p;go_in;go_wp2_with fail;refine q.mono ?_;rintro e w1 ⟨A,k,rfl,D,lG,bN⟩;have j9:=bN.symm;clear bN;subst j9;clear q;go_wp2_with fail;refine n.mono ?_;rintro e w2 ⟨C,m,rfl,H,fb,dw⟩;have ZR:=dw.symm;clear dw;subst ZR;have c:=lG.src;have d:=fb.src;rw [iQ] at c;rw [mg] at d;have g:=M.o (some (aD A 0)) 512 k (some (aD C 0)) 512 m _ c d;rw [h0] at g;clear n c d lG fb;go_wp2_with fail;refine g.mono ?_;rintro e w3 ⟨v,rfl,az,bz⟩;obtain⟨y,z,rfl,fB,_,_⟩:=az.src;have i:=it (t.o.later bz) ((f:Int)+(Y.1:Int)) y _ z Y.2.1 fB (by omega);rw [Ff,<-N.o] at i;rw [Ff];have fS:=yh bz;clear g az fB bz;go_wp2_with fail;refine fk i λw4 a dV=>?_;obtain⟨O,L0,kO,vS⟩:=cM (fw a (by omega)) (yh ((aa.ah F fS.o).trans dV (λ_ h=> .inl h))) fS.o.size dV.size;clear i a dV;go_wp2_with fail;refine fk O λw5 jy dX=>?_;have qE:=dX.size;have u:=yh (aF (jy.mono (G:=more F w w5) (λj b=>by
    rcases b with b|b
    .exact .inl b
    .exact .inr ⟨by omega,by omega⟩) (cG ib.o (by omega))) (L0.o.trans dX (λj b=>by
    rcases b with b|b
    .exact .inl b
    .exact .inr (by omega))))
  clear O jy dX;go_wp2;go_ret;exact⟨rfl,u.o⟩
 .rw [aE p];have R:(Z.1 == 0)=false:=by rw [eG];exact p
  clear p;go_in;go_wp2_with fail;refine q.mono ?_;rintro e w1 ⟨A,k,rfl,D,lG,bN⟩;have j9:=bN.symm;clear bN;subst j9;clear q;go_wp2_with fail;refine n.mono ?_;rintro e w2 ⟨C,m,rfl,H,fb,dw⟩;have ZR:=dw.symm;clear dw;subst ZR;have c:=lG.src;have d:=fb.src;rw [iQ] at c;rw [mg] at d;have g:=M.o (some (aD A 0)) 512 k (some (aD C 0)) 512 m _ c d;rw [h0] at g;clear n c d lG fb;go_wp2_with fail;refine g.mono ?_;rintro e w3 ⟨v,rfl,az,bz⟩;obtain⟨y,z,rfl,fB,_,_⟩:=az.src;have i:=it (t.o.later bz) ((f:Int)+(Y.1:Int)) y _ z Y.2.1 fB (by omega);rw [Ff,<-N.o] at i;rw [Ff];have fS:=yh bz;clear g az fB bz;go_wp2_with fail;refine fk i λw4 a dV=>?_;have u:=yh (aF (a.from ib.o fS.o.size dV.size) (yh ((aa.ah F fS.o).trans dV (λ_ h=> .inl h))).out);clear i a dV;go_wp2;go_ret;exact⟨rfl,u.o⟩
end
end
section
section
variable {w w':World} {F G:Nat->Prop} {r s k:Nat} {S:DS} {L:LG}
theorem GZ (h:aB w F r s S) (cZ:S.fC) (f n:Int) (aT:S.puts.length+500<=4000000000000):
  Calls prog 66 #[pQ r,iV f,iV n] w λe w'=>e= .returned (iV (cy S s f n).1)/\aB w' (more F w w') r s (cy S s f n).2/\aa F w w':=by
 have x:=CD h f n;have u:=yh h.lt;have Q:=yh h;unfold cy;go_in;by_cases q:cq S s f n=0
 .rw [aA (λh=>h q)];obtain⟨Y6,a,b,rfl,rfl,oz,aq,aW⟩:=fM q;rw [q] at x;simp only [Int.toNat_natCast];have L:=zm h;have Z:=h.ok.hi;have adP:S.take.Ok s:=⟨h.ok.len,h.ok.lo,h.ok.hi,h.ok.puts,h.ok.fuse⟩;obtain⟨Uj,Fi⟩:=bL (kF (f:=a) (n:=b) adP oz) ((cZ.take).QM s a b);have ajf:∀k,(bA S.take s a k).2.puts.length<=S.puts.length+k:=λk=>pI S.take s a k;obtain⟨P,D⟩:=bQ ((if (cK S.take s a b).1≠0 then cK S.take s a b else cW (cK S.take s a b).2 s a 4294967296));rw [<-D];have C:=yh D;clear q h cZ adP D;go_wp2_with fail;refine bE x λw1 bN=>?_;have j9:=bN.symm;clear bN;subst j9;clear x;go_wp2_with fail;refine fk L λz cC aX=>?_;have sj:=yh cC;have gQ:=yh aX;have ec:=aX.size;clear L cC aX;go_wp2;go_loopw [8] (λi wr=>∃k:Nat,k<=b+2/\i=iV (k:Int)/\(bA S.take s a k).1=0/\aB wr (more F z wr) r s (bA S.take s a k).2/\aa F z wr) (λi _=>b+2-(intOf i).toNat);case atStart=>exact⟨0,dU _,rfl,rfl,sj.o.more,aa.refl _ _⟩
  case round=>
   obtain⟨k,X,rfl,O,hd,fP⟩:=hrel;obtain⟨J,sH,CP,Aa,O9⟩:=ey (yh O) (yh hd) (yh fP) fP.size (ajf k);clear O hd fP;by_cases q:k<b+2
   .have bm:(k:Int)<(b:Int)+2:=(by omega);go_wp2_with fail;refine(qP wr).mono ?_;rintro e T ⟨rfl,aY,bz⟩;have fJ:Src T (some (aD wr.heap.size 0)) 512 (zs 512):=aY.src;have I:=it (sH.o.later bz) ((a+k:Nat):Int) (some (aD wr.heap.size 0)) 512 512 (zs 512) fJ (by omega);have K:bA S.take s a (k+1)=(bA S.take s a k).2.wr s ((a+k:Nat):Int) 512 (zs 512):=jm J.o;rw [<-K,show ((a+k:Nat):Int)=(a:Int)+(k:Int) by omega] at I;have fS:=yh bz;have kO:=bz.size;clear aY fJ bz K;go_wp2_with fail;refine fk I λU l dV=>?_;have vS:=dV.size;have c:=l.mono (λj c=>by
     rcases c with (c|c)|c
     .exact .inl c
     .exact .inr ⟨c.1,by omega⟩
     .exact .inr ⟨by omega,c.2⟩) (cG (F:=F) (w:=z) (λj c=>by have:=u.o j c;omega) (by omega))
    have Kc:=(CP.o.trans (aa.ah (λ_=>False) fS.o) (λ_ h=>h.elim)).trans dV (λj c=>by
     rcases c with c|c
     .exact .inl c
     .exact .inr c.1)
    obtain⟨Pp,I7⟩:=bL c Kc;clear l dV I c Kc;by_cases g:(bA S.take s a (k+1)).1=0
    .have d:((bA S.take s a (k+1)).1 == 0)=true:=(by rw [beq_iff_eq];exact g);have p:=yh g;clear g;go_wp2;go_roundw;case rel=>exact⟨k+1,by omega,by go_num,p.o,Pp.o,I7.o⟩
     case measure=>simp [intOf];omega
    .have d:((bA S.take s a (k+1)).1 == 0)=false:=(by rw [eG];exact g);have t:cK S.take s a b=bA S.take s a (k+1):=by
      have:bA S.take s a (b+2)=bA S.take s a (k+1):=gw g (b+2) (by omega);unfold cK;rw [this,aE g]
     have m:P=bA S.take s a (k+1):=(by rw [C.o,t,aE g]);have p:=yh m;clear g t m;go_wp2;go_ret;rw [p.o];exact⟨rfl,Pp.o.from u.o ec (by omega),gQ.o.trans I7.o (λ_ h=> .inl h)⟩
   .obtain rfl:k=b+2:=(by omega);have y:=fw sH.o (by omega);have t:cK S.take s a b=(bA S.take s a (b+2)).2.fl s:=by
     unfold cK;rw [aA (by rw [J.o];decide)]
    rw [<-t] at y;have H:(cK S.take s a b).2.puts.length<=S.puts.length+(b+3):=by
     rw [t];have:=xU (bA S.take s a (b+2)).2 s;omega
    clear O9;clear t;obtain⟨Y,E⟩:=bQ (cK S.take s a b);rw [<-E] at y H;have v:=yh E;clear E;go_wp2_with fail;refine fk y λU l dV=>?_;have vS:=dV.size;have c:=l.mono (λj c=>by
     rcases c with c|c
     .exact .inl c
     .exact .inr ⟨c.1,by omega⟩) (cG (F:=F) (w:=z) (λj c=>by have:=u.o j c;omega) (by omega))
    have Kc:=CP.o.trans dV (λj c=>by
     rcases c with c|c
     .exact .inl c
     .exact .inr c.1)
    obtain⟨Pp,I7⟩:=bL c Kc;clear l dV y;by_cases g:Y.1=0
    .have d:(Y.1 == 0)=true:=(by rw [beq_iff_eq];exact g);have dP:=(Uj.o.2.2.2 (by rw [<-v.o];exact g)).1;have VV:=Uj.o.2.1;rw [<-v.o] at dP VV;have ZS:=Fi.o;rw [<-v.o] at ZS;have m:P=cW Y.2 s a 4294967296:=(by rw [C.o,<-v.o,aA (by rw [g];decide)]);have A:=yh m;have uS:=is (br VV a (by omega)) (br VV (a+1) (by omega)) (N:=4294967296) (by omega) (by unfold DS.num at dP;omega);have M:=oG c a 1 0 (by omega) (by omega) (by omega) (by omega) ZS uS;have p:=yh g;clear g uS dP VV c Kc ZS m;go_wp2_with fail;refine fk M λw5 jy dX=>?_;have qE:=dX.size;have R:=yh (aF (jy.mono (G:=more F w w5) (λj c=>by
      rcases c with (c|c)|c
      .exact .inl c
      .exact .inr ⟨by omega,by omega⟩
      .exact .inr ⟨by omega,c.2⟩) (cG u.o (by omega))) ((gQ.o.trans I7.o (λ_ h=> .inl h)).trans dX (λj c=>by
      rcases c with c|c
      .exact .inl c
      .exact .inr (by omega))))
     clear M jy dX;go_wp2;go_ret;rw [A.o];exact⟨rfl,R.o⟩
    .have d:(Y.1 == 0)=false:=(by rw [eG];exact g);have m:P=Y:=(by rw [C.o,<-v.o,aE g]);have p:=yh m;clear g c Kc m;go_wp2;go_ret;rw [p.o];exact⟨rfl,Pp.o.from u.o ec (by omega),gQ.o.trans I7.o (λ_ h=> .inl h)⟩
 .rw [aE q];have W:(cq S s f n == 0)=false:=by rw [eG];exact q
  clear q cZ;go_wp2_with fail;refine bE x λw1 bN=>?_;have j9:=bN.symm;clear bN;subst j9;clear x;go_wp2;go_ret;exact⟨rfl,Q.o.more,aa.refl _ _⟩
end
end
section
section
variable {w w':World} {F G:Nat->Prop} {r s k:Nat} {S:DS} {L:LG}
theorem cH.started (h:cH w k r L) (E:Int) (n:Nat) (a:E=(n:Int)):cH ((((w.setCell ⟨k,8,none⟩ (.bool true)).setCell ⟨k,4,none⟩ (.int .i64 E)).setCell ⟨k,5,none⟩ (.int .i64 0)).setCell ⟨k,6,none⟩ (.int .i64 0)) k r {L with begun:=true,ep:=n,tail:=0,head:=0}:=by
 subst a;exact(heap_setCell_same _ _ 6 _ _ _ (heap_setCell_same _ _ 5 _ _ _ (heap_setCell_same _ _ 4 _ _ _ (heap_setCell_same _ _ 8 _ _ _ h)))).trans (by simp)
theorem cH.trimmed (h:cH w k r L):cH (w.setCell ⟨k,5,none⟩ (.int .i64 (L.head:Int))) k r {L with tail:=L.head}:=(heap_setCell_same _ _ 5 _ _ _ h).trans (by simp)
theorem R5 {F:Nat->Prop} {l:Nat} (b:¬F l) (c:l<w3.heap.size):∀k,more F w3 w2 k->¬k=l:=λk a e=>by
 subst e;rcases a with a|a
 .exact b a
 .omega
theorem aB.sK {w w':World} (hd:aB w2 (Go.Proofs.YtenlkgicpllbhaaGreat.more F w3 w2) r s S) (d:∀j,F j->j<w.heap.size) (b:aa (λj=>j=k) w2 w') (c:¬F k) (aV:k<w3.heap.size) (f:w.heap.size<=w3.heap.size) (e:w3.heap.size<=w2.heap.size):aB w' (Go.Proofs.YtenlkgicpllbhaaGreat.more F w w') r s S:=
   (hd.au b (R5 c aV)).mono (λj a=>by
  rcases a with a|a
  .exact .inl a
  .exact .inr ⟨by omega,by have:=b.size;omega⟩) (cG d (by have:=b.size;omega))
theorem Ah (h:aB w F r s S) (u:cH w k r L) (t:L.Ok s) (p:¬F k) (cZ:S.fC) (aT:S.puts.length+2<=4000000000000) (D:L.dead S=false->L.begun=false->S.num L.f<(L.top+1)*4294967296):
  Calls prog 124 #[pQ k] w λe w'=>e= .returned (iV (L.start S s).1)/\aB w' (more F w w') r s (L.start S s).2.1/\cH w' k r (L.start S s).2.2/\aa (λj=>F j\/j=k) w w':=by
 obtain⟨a,i,g,ib,bm,K,DJ,iQ⟩:=rV (vd h u) u h h.lt u.lt t.s t.top t.n1;unfold LG.start;have dh:=h.ok;go_in;cases hd:L.dead S
 .rw [hd] at a;rw [aA (by decide)];cases vm:L.begun
  .rw [aA (by decide)];have uS:=is (br dh L.f (by omega)) (br dh (L.f+1) (by omega)) (N:=(L.top+1)*4294967296) (by omega) (D hd vm);rw [show (((L.top+1)*4294967296:Nat):Int)=((L.top+1:Nat):Int)*4294967296+((0:Nat):Int) by omega] at uS;have l:=(λc (cC:aB c F r s S)=>oG cC L.f (L.top+1) 0 (by omega) (by omega) aT (by omega) cZ uS);generalize J:cW S s L.f (((L.top+1:Nat):Int)*4294967296+((0:Nat):Int))=Y at*;rw [show ((L.top+1:Nat):Int)=(L.top:Int)+1 by omega,show (((0:Nat):Int))=0 from rfl,<-show IntKind.i64.wrap ((L.top:Int)+1)=(L.top:Int)+1 by rw [IntKind.wrap_i64];omega] at l;by_cases q:Y.1=0
   .rw [aA (λh=>h q)];have d:(Y.1 == 0)=true:=(by rw [beq_iff_eq];exact q);go_wp2_with fail;refine bE a λw1 aq=>?_;have cm:=i.later aq;obtain⟨m,n,o,b⟩:=cM cm.c0 cm.c2 cm.c7 cm.c8;rw [vm] at b;go_wp2_with fail;go_region_held3 (λw'=>w'.cell? (aD k 0)=some (pQ r)/\w'.cell? (aD k 2)=some (iV (L.f:Int))/\w'.cell? (aD k 7)=some (iV (L.top:Int)))
     (first|exact⟨m,n,o⟩|exact⟨iR.c0,iR.c2,iR.c7⟩)
       ((go_at_call 117;refine(l _ (g.later (ai aq))).mono ?_;rintro e c ⟨rfl,cC,aX⟩;have aV:=(aa.ah F aq).trans (aa.ah (λ_=>False) (ai (bi w1.heap.size w1))) (λ_ h=>h.elim);have gZ:=cm.later (ai (bi w1.heap.size w1));have iR:=gZ.au aX p))
    generalize w1.drew=v at*;obtain⟨y,z,A,C,E,G,H,I,kO,ec⟩:=vH iR.c4 iR.c5 iR.c6 iR.c8 (iR.fz 4) (iR.fz 5) (iR.fz 6) (iR.fz 8) aV.size aX.size;have eF:aa (λj=>j=k) c ((((c.setCell ⟨k,8,none⟩ (.bool true)).setCell ⟨k,4,none⟩ (.int .i64 ((L.top:Int)+1))).setCell ⟨k,5,none⟩ (.int .i64 0)).setCell ⟨k,6,none⟩ (.int .i64 0)):=(((aJ (F:=λj=>j=k) _ rfl 8 _).trans (aJ (F:=λj=>j=k) _ rfl 4 _) (λ_ h=> .inl h)).trans (aJ (F:=λj=>j=k) _ rfl 5 _) (λ_ h=> .inl h)).trans (aJ (F:=λj=>j=k) _ rfl 6 _) (λ_ h=> .inl h);have x:=(aF (cC.sK (w:=w) (k:=k) ib eF p (by omega) kO ec) (aF (iR.started ((L.top:Int)+1) (L.top+1) (by omega)) (((aV.mono (λ_ h=> .inl h):aa (λj=>F j\/j=k) w v).trans aX (λ_ h=> .inl (.inl h))).trans eF (λ_ h=> .inl (.inr h)))));go_wp2;go_ret;exact⟨rfl,x⟩
   .rw [aE q];have d:(Y.1 == 0)=false:=(by rw [eG];exact q);go_wp2_with fail;refine bE a λw1 aq=>?_;have cm:=i.later aq;obtain⟨m,n,o,b⟩:=cM cm.c0 cm.c2 cm.c7 cm.c8;rw [vm] at b;go_wp2_with fail;go_region_held3 (λw'=>w'.cell? (aD k 0)=some (pQ r)/\w'.cell? (aD k 2)=some (iV (L.f:Int))/\w'.cell? (aD k 7)=some (iV (L.top:Int)))
     (first|exact⟨m,n,o⟩|exact⟨iR.c0,iR.c2,iR.c7⟩)
       ((go_at_call 117;refine(l _ (g.later (ai aq))).mono ?_;rintro e c ⟨rfl,cC,aX⟩;have aV:=(aa.ah F aq).trans (aa.ah (λ_=>False) (ai (bi w1.heap.size w1))) (λ_ h=>h.elim);have gZ:=cm.later (ai (bi w1.heap.size w1));have iR:=gZ.au aX p))
    generalize w1.drew=v at*;go_wp2;go_ret;exact⟨rfl,(aF (cC.from ib aV.size aX.size) (aF iR ((aV.mono (λ_ h=> .inl h):aa (λj=>F j\/j=k) w v).trans aX (λ_ h=> .inl (.inl h)))))⟩
  .rw [aE rfl];go_wp2_with fail;refine bE a λw1 aq=>?_;have cm:=i.later aq;have b:=cm.c8;rw [vm] at b;go_wp2;go_ret;exact⟨rfl,aF ((g.later aq).more (w:=w)) (aF cm (aa.ah (λj=>F j\/j=k) aq))⟩
 .rw [hd] at a;rw [aE rfl];go_wp2_with fail;refine bE a λw1 aq=>?_;go_wp2;go_ret;exact⟨rfl,aF ((g.later aq).more (w:=w)) (aF (i.later aq) (aa.ah (λj=>F j\/j=k) aq))⟩
end
end
section
section
variable {w w':World} {F G:Nat->Prop} {r s k:Nat} {S:DS} {L:LG}
theorem Oi (h:aB w F r s S) (A:cH w k r L) (p:L.Ok s) (m:¬F k) (cZ:S.fC) (aT:S.puts.length+3<=4000000000000) (J:L.bd S=0->S.num L.f<=L.ep*4294967296+L.tail):
  Calls prog 131 #[pQ k] w λe w'=>e= .returned (iV (L.trim S s).1)/\aB w' (more F w w') r s (L.trim S s).2.1/\cH w' k r (L.trim S s).2.2/\aa (λj=>F j\/j=k) w w':=by
 obtain⟨g,x,v,ib,bm,hs,iQ,M,dZ,dh⟩:=vH (lP h A) (yh A) (yh h) (yh h.lt) A.lt p.s p.n1 p.ep p.th h.ok;unfold LG.trim;by_cases u:L.bd S=0
 .have O:L.begun=true:=by
   unfold LG.bd at u;split at u
   .omega
   .split at u
    .assumption
    .omega
  have P:=p.hb O;have z:L.sync S s=S.fl s:=by unfold LG.sync;rw [aA (by omega)]
  rw [z];rw [u] at g;have K:=J u;obtain⟨Z,n⟩:=bQ (S.fl s);have adQ:Z.2.Ok s:=by rw [n];exact qx dh
  have ajh:Z.2.fC:=by rw [n];exact cZ.fl s
  have hZp:Z.2.puts.length<=S.puts.length+1:=by rw [n];exact xU S s
  have I:Z.2.num L.f=S.num L.f:=by
   rw [n];unfold DS.num;rw [eU dh (by omega),eU dh (by omega)]
  rw [<-n];have VW:=yh n;clear h A p cZ J u z n dh;by_cases t:Z.1=0
  .rw [aA (λh=>h t)];have Mq:=yh t;clear t;by_cases C:L.tail=L.head
   .rw [aE C];have X:((L.tail:Int) == (L.head:Int))=true:=(by rw [beq_iff_eq];omega);clear C;go_in;go_wp2_with fail;refine bE g λw1 aq=>?_;have cm:=x.o.later aq;have c:=cm.c0;have b:=fw (v.o.later aq) (by omega);rw [<-VW.o] at b;rw [Mq.o] at b;obtain⟨cN,Bt⟩:=bL aq cm;clear g aq cm;go_wp2_with fail;refine fk b λa cC aX=>?_;have fy:=Bt.o.au aX m;clear b c;have H:=fy.c5;have y:=fy.c6;have l:=yh (λj=>aF ((cC.later (below_drewN (bi _ _) j)).more (w:=w)) (aF (fy.later (below_drewN (bi _ _) j)) ((((aa.ah F cN.o).trans aX (λ_ h=> .inl h)).mono (λ_ h=> .inl h):aa (λj=>F j\/j=k) w a).trans (aa.ah (λ_=>False) (below_drewN (bi a.heap.size a) j)) (λ_ h=>h.elim))));clear cC aX fy;go_wp2_with fail;go_quiet (fail);go_wp2;go_ret;exact⟨rfl,l.o _⟩
   .rw [aA C];have X:((L.tail:Int) == (L.head:Int))=false:=(by rw [eG];omega);have uS:=is (br adQ L.f (by omega)) (br adQ (L.f+1) (by omega)) (N:=L.ep*4294967296+L.head) (by omega) (by unfold DS.num at I K;omega);rw [show ((L.ep*4294967296+L.head:Nat):Int)=(L.ep:Int)*4294967296+(L.head:Int) by omega] at uS;have T:=yh (λa (cC:aB a F r s Z.2)=>oG cC L.f L.ep L.head M P (by omega) (by omega) ajh uS);generalize hY:cW Z.2 s L.f ((L.ep:Int)*4294967296+(L.head:Int))=Y at*;clear C uS hY;by_cases q:Y.1=0
    .rw [aA (λh=>h q)];have d:(Y.1 == 0)=true:=(by rw [beq_iff_eq];exact q);have D:=yh q;clear q;go_in;go_wp2_with fail;refine bE g λw1 aq=>?_;have cm:=x.o.later aq;have c:=cm.c0;have b:=fw (v.o.later aq) (by omega);rw [<-VW.o] at b;rw [Mq.o] at b;obtain⟨cN,Bt⟩:=bL aq cm;clear g aq cm;go_wp2_with fail;refine fk b λa cC aX=>?_;have fy:=Bt.o.au aX m;clear b c;obtain⟨c,E,G,H,y,sj,Ve,ma⟩:=rV fy.c0 fy.c2 fy.c4 fy.c5 fy.c6 (yh cC) (yh fy) (yh ((aa.ah F cN.o).trans aX (λ_ h=> .inl h)));clear cC fy aX;go_wp2_with fail;go_quiet (fail);go_wp2_with fail;go_region_held3 (λw'=>w'.cell? (aD k 0)=some (pQ r)/\w'.cell? (aD k 2)=some (iV (L.f:Int))/\w'.cell? (aD k 4)=some (iV (L.ep:Int))/\w'.cell? (aD k 6)=some (iV (L.head:Int)))
      (first|exact⟨c,E,G,y⟩|exact⟨iR.c0,iR.c2,iR.c4,iR.c6⟩)
        ((go_at_call 117;refine(T.o _ (sj.o.later (below_drewN (bi _ _) (nq+1)))).mono ?_;rintro e R ⟨rfl,i,dV⟩;have dX:=ma.o.trans (aa.ah (λ_=>False) (below_drewN (bi a.heap.size a) (nq+1))) (λ_ h=>h.elim);have gZ:=Ve.o.later (below_drewN (bi a.heap.size a) (nq+1));have iR:=gZ.au dV m))
     generalize a.drewN (nq+1)=Q at*;obtain⟨kO,vS,U,f5⟩:=cM dX.size dV.size iR.c5 (iR.fz 5);have eF:aa (λj=>j=k) R (R.setCell ⟨k,5,none⟩ (.int .i64 (L.head:Int))):=aJ (F:=λj=>j=k) _ rfl 5 _;have l:=yh (aF (i.sK (w:=w) (k:=k) ib.o eF m (by omega) kO vS) (aF iR.trimmed (((dX.mono (λ_ h=> .inl h):aa (λj=>F j\/j=k) w Q).trans dV (λ_ h=> .inl (.inl h))).trans eF (λ_ h=> .inl (.inr h)))));clear i dV iR dX gZ eF;go_wp2;go_ret;exact⟨by rw [<-D.o];rfl,l.o⟩
    .rw [aE q];have d:(Y.1 == 0)=false:=(by rw [eG];exact q);clear q;go_in;go_wp2_with fail;refine bE g λw1 aq=>?_;have cm:=x.o.later aq;have c:=cm.c0;have b:=fw (v.o.later aq) (by omega);rw [<-VW.o] at b;rw [Mq.o] at b;obtain⟨cN,Bt⟩:=bL aq cm;clear g aq cm;go_wp2_with fail;refine fk b λa cC aX=>?_;have fy:=Bt.o.au aX m;clear b c;obtain⟨c,E,G,H,y,sj,Ve,ma⟩:=rV fy.c0 fy.c2 fy.c4 fy.c5 fy.c6 (yh cC) (yh fy) (yh ((aa.ah F cN.o).trans aX (λ_ h=> .inl h)));clear cC fy aX;go_wp2_with fail;go_quiet (fail);go_wp2_with fail;go_region_held3 (λw'=>w'.cell? (aD k 0)=some (pQ r)/\w'.cell? (aD k 2)=some (iV (L.f:Int))/\w'.cell? (aD k 4)=some (iV (L.ep:Int))/\w'.cell? (aD k 6)=some (iV (L.head:Int)))
      (first|exact⟨c,E,G,y⟩|exact⟨iR.c0,iR.c2,iR.c4,iR.c6⟩)
        ((go_at_call 117;refine(T.o _ (sj.o.later (below_drewN (bi _ _) (nq+1)))).mono ?_;rintro e R ⟨rfl,i,dV⟩;have dX:=ma.o.trans (aa.ah (λ_=>False) (below_drewN (bi a.heap.size a) (nq+1))) (λ_ h=>h.elim);have gZ:=Ve.o.later (below_drewN (bi a.heap.size a) (nq+1));have iR:=gZ.au dV m))
     generalize a.drewN (nq+1)=Q at*;have l:=yh (aF (i.from ib.o dX.size dV.size) (aF iR ((dX.mono (λ_ h=> .inl h):aa (λj=>F j\/j=k) w Q).trans dV (λ_ h=> .inl (.inl h)))));clear i dV iR dX gZ;go_wp2;go_ret;exact⟨rfl,l.o⟩
  .rw [aE t];have W:(Z.1 == 0)=false:=(by rw [eG];exact t);have dn:(Z.1 != 0)=true:=(by rw [fT];exact t);clear t;go_in;go_wp2_with fail;refine bE g λw1 aq=>?_;have cm:=x.o.later aq;have c:=cm.c0;have b:=fw (v.o.later aq) (by omega);rw [<-VW.o] at b;obtain⟨cN,Bt⟩:=bL aq cm;clear g aq cm;go_wp2_with fail;refine fk b λa cC aX=>?_;have fy:=Bt.o.au aX m;clear b c;have H:=fy.c5;have y:=fy.c6;have l:=yh (λj=>aF ((cC.later (below_drewN (bi _ _) j)).more (w:=w)) (aF (fy.later (below_drewN (bi _ _) j)) ((((aa.ah F cN.o).trans aX (λ_ h=> .inl h)).mono (λ_ h=> .inl h):aa (λj=>F j\/j=k) w a).trans (aa.ah (λ_=>False) (below_drewN (bi a.heap.size a) j)) (λ_ h=>h.elim))));clear cC aX fy;go_wp2_with fail;go_quiet (fail);go_wp2;go_ret;exact⟨rfl,l.o _⟩
 .have z:L.sync S s=(L.bd S,S):=by unfold LG.sync;rw [aE u]
  rw [z];simp only;rw [aE u];have W:(L.bd S == 0)=false:=by rw [eG];exact u
  clear h A p cZ J u z dh;go_in;go_wp2_with fail;refine bE g λw1 aq=>?_;have l:=yh (aF ((v.o.later aq).more (w:=w)) (aF (x.o.later aq) (aa.ah (λj=>F j\/j=k) aq)));clear g aq;go_wp2;go_ret;exact⟨rfl,l.o⟩
end
end
theorem sL (x:Nat) (w:World) (b:x<=140737488355328):Calls prog 142 #[iV (x:Int)] w λe w'=>e= .returned (iV (((x+491) / 492:Nat):Int))/\w'=w:=by
 have a:((x:Int)+492-1).tdiv 492=(((x+491) / 492:Nat):Int):=by rw [Int.tdiv_eq_ediv_of_nonneg (by omega)];omega
 go_in;go_wp2;go_ret;refine⟨?_,rfl⟩;first|rfl|(simp;omega)
theorem bj {P:Program} {b:Array Oper} {Q:Exit->Act->World->Prop} {o:Oper} {rest:List Oper} {a:Act} (d:o.guard=none) (s x:Operand) (t:TypeId) (e:o.op= .call {callee:= .builtin .append,args:= #[s,x],argTypes:= #[t,t]}) (v u r:Value) (g:a.eval s=v) (i:a.eval x=u)
    (f:(Builtin.append_ #[t,t] o.type #[v,u]).run P w= .ok r w') (h:wpList P b Q rest (a.put o.dst r) w'):wpList P b Q (o :: rest) a w:=
 wpList_plain d λ_ c=>fQ s x t e v u r g i f (c _ _ h)
theorem qV {W:World} {B:Nat} {f:List Int} (az:Own W B v f) {a:Option Addr} (c:Nat) (p:Src W a n d) (hd:0<n) (b:f.length+n<=1000000) (j:B<=W.heap.size):
  ∃v' w',(Builtin.append_ #[36,36] 36 #[v, .slice a n c]).run prog W= .ok v' w'/\Own w' B v' (f ++ d)/\Below B W w':=by
 obtain⟨g,l,w',m,i,o,_⟩:=qK az c p hd b j;refine⟨_,w',m,?_,(bi B W).grown o j (λk e=>jn az e)⟩;rw [<-iE] at i;have e:f.length+d.length=(f ++ d).length:=by simp
 unfold Own;rw [e] at i⊢;exact i
theorem lz (m n:Nat) (w:World) (j:m<=9223372036854775807) (o:n<=8):
  Calls prog 177 #[iV (m:Int),iV (n:Int)] w λe w'=>∃v,e= .returned v/\Own w' w.heap.size v (leb n m)/\bW w w':=by
 go_in;go_wp2;go_loopw [0,5,6] (λx v i wr=>∃k:Nat,k<=n/\x=iV ((m / 2 ^ (8*k):Nat):Int)/\i=iV (k:Int)/\Own wr w.heap.size v (leb k m)/\bW w wr) (λ_ _ i _=>n-(intOf i).toNat);case atStart=>exact⟨0,dU _,by simp,rfl,Own.nil _ _,bi _ _⟩
 case round=>
  obtain⟨k,l,rfl,rfl,az,dO⟩:=hrel;obtain⟨bq,a,p,f⟩:=cM az dO dO.size (aH k m);clear az dO;by_cases bm:k<n
  .have cw:(k:Int)<(n:Int):=(by omega);have g:m / 2 ^ (8*k)<=9223372036854775807:=jQ (Nat.div_le_self _ _) j;have c:m / 2 ^ (8*(k+1))=m / 2 ^ (8*k) / 256:=(by rw [Nat.div_div_eq_div_mul,Nat.mul_succ,Nat.pow_add]);have GR:=c;have N2:=iX k m;clear c;obtain⟨Q,d⟩:=bQ (m / 2 ^ (8*k));rw [<-d] at g GR N2⊢;clear d;have q:(Q:Int).tmod 256=((Q%256:Nat):Int):=(by rw [Int.tmod_eq_emod_of_nonneg (by omega)];omega);have r:(Q:Int).tdiv 256=((Q / 256:Nat):Int):=(by rw [Int.tdiv_eq_ediv_of_nonneg (by omega)];omega);go_wp2_with (at_builtin;refine b9 rfl _ _ rfl w.heap.size u5 (leb k m) _ rfl rfl bq ?b1 ?b2 ?_);case b1=>omega
   case b2=>omega
   intro s w1 tz aq;have b:=(aF tz (a.trans aq));clear tz aq;go_wp2;go_roundw;case rel=>exact⟨k+1,by omega,by rw [GR];first|rfl|simp,by go_num,by rw [N2];exact b.1,b.2⟩
   case measure=>simp [intOf];omega
  .obtain rfl:k=n:=(by omega);have vQ:¬(k:Int)<(k:Int):=(by omega);go_wp2;go_ret;exact⟨_,rfl,bq,a⟩
section
theorem Mr (S:DS) (s f n E P i c:Nat) (part:List Int):jM S s f n E P i c part=S.wr s ((f+2+P%n:Nat):Int) 512 (gg (S.now (f+2+P%n)) (kE E P i c part)).1:=by
 unfold jM;split
 .rename_i h;unfold DS.wr;rw [aE h]
 .rfl
section
variable {w w':World} {F G:Nat->Prop} {r s k:Nat} {S:DS} {L:LG}
theorem KD (h:aB w F r s S) (Q:cH w k r L) (u:L.Ok s) (hF:¬F k) (cZ:S.fC) (b o x c:Nat) (d:List Int) (hs:Src w (some (aD b o)) x d) (Dp:¬F b) (hd:Bytes d) (hxc:x<=c) (hr:L.fN S x=0) (aT:S.puts.length+100<=4000000000000):
  Calls prog 143 #[pQ k, .slice (some (aD b o)) x c] w λe w'=>e= .returned (iV (L.append S s d).1)/\aB w' (more F w w') r s (L.append S s d).2.1/\cH w' k r (L.append S s d).2.2/\aa (λj=>F j\/j=k) w w':=by
 obtain⟨k0,k1,k2,k3,k4⟩:=jC hr;have h1:=lP h Q;rw [k0] at h1;have Ui:=hs.1;obtain⟨C,hC⟩:=bQ ((x+491) / 492);have XI:cY x=C:=by rw [hC];rfl
 rw [XI] at k3 k4;have YE:C<=17:=by omega
 obtain⟨bm,hhi,dZ,iQ,mg,ef,hep,Mb⟩:=rV Q.lt u.hi u.th u.n1 u.n2 u.s u.ep h.ok.hi;obtain⟨P,hP⟩:=bQ (L.append S s d);rw [<-hP];have t:P=if (cP L S s d C).1≠0 then ((cP L S s d C).1,(cP L S s d C).2,L) else (0,(cP L S s d C).2,{L with head:=L.head+C}):=by
  rw [hP];unfold LG.append;rw [Ui,hr,XI,aA (by decide)]
 obtain⟨HP,HC,HL,HD,ib,XR⟩:=Yu t hC Q h h.lt hs;have Fi:=yh cZ;have iB:((x:Int) == 0)=false:=by rw [eG];omega
 have hd3:¬(1073741824:Int)<(L.head:Int)+(C:Int):=by omega
 have hd4:¬(L.n:Int)-((L.head:Int)-(L.tail:Int))<(C:Int):=by omega
 clear h Q u cZ hs hP t hC hr k0;go_in;go_wp2_with fail;refine bE h1 λw1 aq=>?_;have cm:=HL.o.later aq;obtain⟨O,c5,c6⟩:=jw cm.c3 cm.c5 cm.c6;clear h1;go_wp2_with fail;refine((λwx=>sL x wx (by omega)) _).mono ?_;rintro e R ⟨rfl,dw⟩;have eB:=dw.symm;subst eB;rw [<-HC.o];obtain⟨cN,Bt⟩:=bL aq cm;clear dw aq cm;go_wp2_with fail;go_quiet (fail);obtain⟨eV,Ve⟩:=bL (below_drewN cN.o nq) (Bt.o.later (below_drewN (bi w1.heap.size w1) nq));generalize w1.drewN nq=R at*;clear O c5 c6 Bt cN;go_wp2;have ec:=eV.o.size;go_loopw [7] (λi wr=>∃j:Nat,j<=C/\i=iV (j:Int)/\(cP L S s d j).1=0/\aB wr (more F R wr) r s (cP L S s d j).2/\aa F R wr) (λi _=>C-(intOf i).toNat);case atStart=>exact⟨0,dU _,rfl,rfl,(HD.o.later eV.o).more,aa.refl _ _⟩
 case round=>
  obtain⟨j,hj,rfl,he,A,fP⟩:=hrel;have BA:=Ve.o.au fP hF;have HE:=yh he;have sH:=yh A;have CP:=yh fP;have Mi:=yh BA;have Aa:=fP.size;clear he A fP;by_cases q:j<C
  .have cw:(j:Int)<(C:Int):=(by omega);have c4:=BA.c4;have hxI:492*j<x:=(by have:=HC.o;omega);clear BA;have pf:(min (x:Int) (((j:Int)+1)*492)).toNat-j*492=gk x j:=(by unfold gk;omega);have Fr:gk x j=min 492 (x-492*j):=rfl;have ap5:1<=gk x j/\gk x j<=492:=(by omega);have kP:=XR.o.nB ((aa.ah F eV.o).trans CP.o (λ_ h=> .inl h)) (λz hz _=>by cases hz;exact Dp);have I:Src wr (some ⟨b,o+j*492,none⟩) (gk x j) (partOf d j):=by
    have:=kP.sub (492*j) (gk x j) (by omega);rwa [show (d.drop (492*j)).take (gk x j)=partOf d j by unfold partOf;rw [List.take_eq_take_iff,List.length_drop,Ui];omega,Nat.mul_comm] at this
   obtain⟨HSP,HPl⟩:=bL I pf;clear I kP pf Fr;go_wp2_with fail;rw [HPl.o];have iA:=lz L.ep 4 wr (by omega) (by omega);rw [show (((4:Nat)):Int)=4 from rfl] at iA;refine iA.mono ?_;rintro e wa1 ⟨v1,rfl,l,a⟩;obtain⟨a1,c1,rfl,zJ,_,_⟩:=l.src;rw [aH] at zJ⊢;have ap9:=a.size;obtain⟨x1,J,bC,az,iD⟩:=qV (B:=wr.heap.size) (show Own wa1 wr.heap.size (.slice none 0 0) ([]) from Own.nil _ _) c1 zJ (by omega) (by simp) (by omega);have aqa:=iD.size;have adR:=yh bC;have Z:=yh az;have cN:Yh (bW wr J):=(a.mono (by omega)).trans iD;have cc1:=(Mi.o.later cN.o).c6;clear iA l a zJ bC az iD;go_wp2_with (at_builtin;refine bj rfl _ _ 36 rfl (.slice none 0 0) (.slice a1 4 c1) _ rfl rfl adR.o ?_);have qC:=lz (L.head+j) 4 J (by omega) (by omega);rw [show (((4:Nat)):Int)=4 from rfl] at qC;rw [show ((L.head+j:Nat):Int)=(L.head:Int)+(j:Int) by omega] at qC;refine qC.mono ?_;rintro e wa2 ⟨v2,rfl,l,a⟩;obtain⟨a2,c2,rfl,zJ,_,_⟩:=l.src;rw [aH] at zJ⊢;have aqc:=a.size;obtain⟨x2,K,bC,az,iD⟩:=qV (B:=wr.heap.size) (show Own wa2 wr.heap.size x1 ([] ++ leb 4 L.ep) from Z.o.later a) c2 zJ (by omega) (by simp [aH]) (by omega);have aqd:=iD.size;have adS:=yh bC;have Vy:=yh az;have dE:Yh (bW wr K):=cN.o.trans ((a.mono (by omega)).trans iD);clear qC l a zJ bC az iD;go_wp2_with (at_builtin;refine bj rfl _ _ 36 rfl x1 (.slice a2 4 c2) _ rfl rfl adS.o ?_);have NY:=lz j 2 K (by omega) (by omega);rw [show (((2:Nat)):Int)=2 from rfl] at NY;refine NY.mono ?_;rintro e wa3 ⟨v3,rfl,l,a⟩;obtain⟨a3,O,rfl,zJ,_,_⟩:=l.src;rw [aH] at zJ⊢;have aqf:=a.size;obtain⟨x3,N,bC,az,iD⟩:=qV (B:=wr.heap.size) (show Own wa3 wr.heap.size x2 ([] ++ leb 4 L.ep ++ leb 4 (L.head+j)) from Vy.o.later a) O zJ (by omega) (by simp [aH]) (by omega);have aqg:=iD.size;have adT:=yh bC;have HO3:=yh az;have fS:Yh (bW wr N):=dE.o.trans ((a.mono (by omega)).trans iD);clear NY l a zJ bC az iD;go_wp2_with (at_builtin;refine bj rfl _ _ 36 rfl x2 (.slice a3 2 O) _ rfl rfl adT.o ?_);have Oa:=lz C 2 N (by omega) (by omega);rw [show (((2:Nat)):Int)=2 from rfl] at Oa;refine Oa.mono ?_;rintro e wa4 ⟨v4,rfl,l,a⟩;obtain⟨a4,c4,rfl,zJ,_,_⟩:=l.src;rw [aH] at zJ⊢;have aqi:=a.size;obtain⟨x4,wb4,bC,az,iD⟩:=qV (B:=wr.heap.size) (show Own wa4 wr.heap.size x3 ([] ++ leb 4 L.ep ++ leb 4 (L.head+j) ++ leb 2 j) from HO3.o.later a) c4 zJ (by omega) (by simp [aH]) (by omega);have aqk:=iD.size;have G0:=yh bC;have HO4:=yh az;have jB:Yh (bW wr wb4):=fS.o.trans ((a.mono (by omega)).trans iD);clear Oa l a zJ bC az iD;obtain⟨x5,m,bC,az,iD⟩:=qV (B:=wr.heap.size) HO4.o (c-j*492) (HSP.o.later jB.o) (by omega) (by simp [aH];omega) (by omega);have G1:=yh bC;have ZT:Yh (Own m wr.heap.size x5 (kE L.ep (L.head+j) j C (partOf d j))):=by
    refine yh ?_;unfold kE;simpa [List.append_assoc] using az
   have jd:Yh (bW wr m):=jB.o.trans iD;have qE:=iD.size;have I1:=Mi.o.later jd.o;obtain⟨g2,g3,g6⟩:=jw I1.c2 I1.c3 I1.c6;clear bC az iD I1;go_wp2_with (at_builtin;first|refine bj rfl _ _ 36 rfl x3 (.slice a4 2 c4) _ rfl rfl G0.o ?_|refine bj rfl _ _ 36 rfl x4 (.slice (some ⟨b,o+j*492,none⟩) (gk x j) (c-j*492)) _ rfl rfl G1.o ?_);have wh:((L.head:Int)+(j:Int)).tmod (L.n:Int)=(((L.head+j)%L.n:Nat):Int):=(by rw [Int.tmod_eq_emod_of_nonneg (by omega),<-Int.natCast_add,<-Int.natCast_emod]);have R6:((L.head:Int)+(j:Int))%(L.n:Int)=(((L.head+j)%L.n:Nat):Int):=(by rw [<-Int.natCast_add,<-Int.natCast_emod]);have hmd:(L.head+j)%L.n<L.n:=Nat.mod_lt _ (by omega);obtain⟨M,hM⟩:=bQ ((L.head+j)%L.n);rw [<-hM] at wh R6 hmd;have HM:=yh hM;clear hM;go_quiet (fail);have p:=below_drewN (bi m.heap.size m) nq;have A8:=jd.o.trans (p.mono jd.o.size);have Ms:=Mi.o.later A8;have po:=sH.o.later A8;have hzq:=p.size;generalize m.drewN nq=w6 at*;have hpj:=(mu (L:=L) (S:=S) (s:=s) (d:=d) (by omega) ef j).2.2.2;have adW:(cP L S s d j).2.fC:=mr Fi.o (λi T hT=>by
    rw [Mr];exact hT.wr s _ _ (vW (mt (oy hd _)))) j
   have mN:=br sH.o.ok (L.f+2+M) (by omega);have l6:=so (old:=(cP L S s d j).2.now (L.f+2+M)) (body:=kE L.ep (L.head+j) j C (partOf d j)) mN (by rw [uW,J2,Ui];omega);have h3:=jF po (L.f+2+M) (by omega) (by omega);rw [show ((L.f+2+M:Nat):Int)=(L.f:Int)+2+(M:Int) by omega] at h3;obtain⟨g0',W,wO,HO6,Y,U⟩:=kQ Ms.c0 (yh po) (yh A8) (yh (ZT.o.later p)) (yh Ms) (yh (adW.now (L.f+2+M)));have D:cP L S s d (j+1)=(cP L S s d j).2.wr s ((L.f+2+M:Nat):Int) 512 (gg ((cP L S s d j).2.now (L.f+2+M)) (kE L.ep (L.head+j) j C (partOf d j))).1:=by
    have:cP L S s d (j+1)=jM (cP L S s d j).2 s L.f L.n L.ep (L.head+j) j (cY d.length) (partOf d j):=jm HE.o;rw [this,Mr,Ui,XI,<-HM.o]
   have X:=yh D;clear po A8 Ms adW D p;go_wp2_with fail;refine h3.mono ?_;rintro e w7 ⟨gn,cn,rfl,hFg,aY,T7⟩;have ajn:=T7.symm;clear T7;subst ajn;obtain⟨a7,c7,NH,Mg,_,_⟩:=HO6.o.src;subst NH;have fZ:=aY.src;rw [mN] at fZ;have h4:=qF (some (aD gn 0)) 512 cn ((cP L S s d j).2.now (L.f+2+M)) a7 _ c7 (kE L.ep (L.head+j) j C (partOf d j)) w6 fZ Mg (mt (oy hd _)) U.o;rw [l6.1] at h4;clear h3 aY fZ Mg;go_wp2_with fail;refine h4.mono ?_;rintro e w8 ⟨v8,rfl,H,BD⟩;obtain⟨a8,c8,rfl,Ja,_,_⟩:=H.src;have h5:=it (W.o.later BD) ((L.f+2+M:Nat):Int) a8 _ c8 _ Ja (by omega);rw [l6.2,<-X.o,show ((L.f+2+M:Nat):Int)=(L.f:Int)+2+(M:Int) by omega] at h5;rw [l6.2];have aqq:=(Y.o.later BD).c0;have VX:=yh (wO.o.trans (BD.mono wO.o.size));have VY:=BD.size;clear h4 H Ja BD;go_wp2_with fail;refine fk h5 λw9 ZU A4=>?_;have hz9:=A4.size;have E:=ZU.mono (λi g=>by
    rcases g with (g|g)|g
    .exact .inl g
    .exact .inr ⟨g.1,by omega⟩
    .exact .inr ⟨by omega,g.2⟩) (cG (F:=F) (w:=R) (λi g=>by have:=ib.o i g;omega) (by omega))
   have Kc:=(CP.o.trans (aa.ah (λ_=>False) VX.o) (λ_ h=>h.elim)).trans A4 (λi g=>by
    rcases g with g|g
    .exact .inl g
    .exact .inr g.1)
   obtain⟨Pp,I7⟩:=bL E Kc;clear ZU A4 h5 E Kc;by_cases v:(cP L S s d (j+1)).1=0
   .have d9:((cP L S s d (j+1)).1 == 0)=true:=(by rw [beq_iff_eq];exact v);have y:=yh v;clear v;go_wp2;go_roundw;case rel=>exact⟨j+1,by omega,by go_num,y.o,Pp.o,I7.o⟩
    case measure=>simp [intOf];omega
   .have d9:((cP L S s d (j+1)).1 == 0)=false:=(by rw [eG];exact v);have e2:cP L S s d C=cP L S s d (j+1):=gw v C (by omega);have t:P=((cP L S s d (j+1)).1,(cP L S s d (j+1)).2,L):=(by rw [HP.o,e2,aE v]);have y:=yh t;clear v e2 t;go_wp2;go_ret;rw [y.o];exact⟨rfl,Pp.o.from ib.o ec (by omega),Ve.o.au I7.o hF,((aa.ah F eV.o).trans I7.o (λ_ h=> .inl h)).mono (λ_ h=> .inl h)⟩
  .obtain rfl:j=C:=(by omega);have vQ:¬(j:Int)<(j:Int):=(by omega);have c6:=BA.c6;have f6:=BA.fz 6;have t:P=(0,(cP L S s d j).2,{L with head:=L.head+j}):=(by rw [HP.o,aA (by rw [HE.o];decide)]);have y:=yh t;have eF:aa (λi=>i=k) wr (wr.setCell ⟨k,6,none⟩ (.int .i64 ((L.head:Int)+(j:Int)))):=aJ (F:=λi=>i=k) _ rfl 6 _;have G:cH (wr.setCell ⟨k,6,none⟩ (.int .i64 ((L.head:Int)+(j:Int)))) k r {L with head:=L.head+j}:=(heap_setCell_same _ _ 6 _ _ _ BA).trans (by simp);have HZ:=yh (aF (sH.o.sK (w:=w) (k:=k) ib.o eF hF (by omega) ec Aa) (aF G ((((aa.ah F eV.o).trans CP.o (λ_ h=> .inl h)).mono (λ_ h=> .inl h):aa (λi=>F i\/i=k) w wr).trans eF (λ_ h=> .inl (.inr h)))));clear t eF G BA;go_wp2;go_ret;rw [y.o];exact⟨rfl,HZ.o⟩
end
end
section
section
variable {w w':World} {F G:Nat->Prop} {r s k:Nat} {S:DS} {L:LG}
theorem KE (h:aB w F r s S) (A:cH w k r L) (q:L.Ok s) (a:Option Addr) (x c:Nat) (J:x<=140737488355328) (d:L.fN S x≠0):
  Calls prog 143 #[pQ k, .slice a x c] w λe w'=>e= .returned (iV (L.fN S x))/\bW w w':=by
 have b:=lP h A;have f:=λwx=>sL x wx J;obtain⟨i,I,dZ,mg⟩:=cM (yh A) q.hi q.th q.n2;unfold LG.fN at d⊢;clear h A q;by_cases g:L.bd S=0
 .simp only [aA (λh:¬L.bd S=0=>h g)] at d⊢;rw [g] at b;clear g;by_cases t:x=0
  .simp only [aE t];have E:((x:Int) == 0)=true:=(by rw [beq_iff_eq];omega);clear d t;go_in;go_wp2_with fail;refine bE b λw1 aq=>?_;have cm:=i.o.later aq;obtain⟨l,m,p⟩:=jw cm.c3 cm.c5 cm.c6;clear b;go_wp2_with fail;refine(f _).mono ?_;rintro e y ⟨rfl,dw⟩;have eB:=dw.symm;subst eB;have cN:=yh aq;clear f dw aq cm;go_wp2;go_ret;exact⟨rfl,cN.o⟩
  .simp only [aA t] at d⊢;have E:((x:Int) == 0)=false:=(by rw [eG];omega);clear t;by_cases u:8364<x
   .simp only [aE u];have G:(8364:Int)<(x:Int):=(by omega);clear d u;go_in;go_wp2_with fail;refine bE b λw1 aq=>?_;have cm:=i.o.later aq;obtain⟨l,m,p⟩:=jw cm.c3 cm.c5 cm.c6;clear b;go_wp2_with fail;refine(f _).mono ?_;rintro e y ⟨rfl,dw⟩;have eB:=dw.symm;subst eB;have cN:=yh aq;clear f dw aq cm;go_wp2;go_ret;exact⟨rfl,cN.o⟩
   .simp only [aA u] at d⊢;have G:¬(8364:Int)<(x:Int):=(by omega);clear u;have mY:cY x=(x+491) / 492:=rfl;by_cases v:1073741824<L.head+cY x
    .simp only [aE v];clear d;obtain⟨C,j⟩:=bQ ((x+491) / 492);have YE:C<=17:=(by omega);have H:(1073741824:Int)<(L.head:Int)+(C:Int):=(by omega);have z:=yh j;clear v mY j;go_in;go_wp2_with fail;refine bE b λw1 aq=>?_;have cm:=i.o.later aq;obtain⟨l,m,p⟩:=jw cm.c3 cm.c5 cm.c6;clear b;go_wp2_with fail;refine(f _).mono ?_;rintro e y ⟨rfl,dw⟩;have eB:=dw.symm;subst eB;rw [<-z.o];have cN:=yh aq;clear f dw aq cm;go_wp2;go_ret;exact⟨rfl,cN.o⟩
    .simp only [aA v] at d⊢;by_cases D:L.tail+L.n<L.head+cY x
     .simp only [aE D];clear d;obtain⟨C,j⟩:=bQ ((x+491) / 492);have YE:C<=17:=(by omega);have H:¬(1073741824:Int)<(L.head:Int)+(C:Int):=(by omega);have M:(L.n:Int)-((L.head:Int)-(L.tail:Int))<(C:Int):=(by omega);have z:=yh j;clear v D mY j;go_in;go_wp2_with fail;refine bE b λw1 aq=>?_;have cm:=i.o.later aq;obtain⟨l,m,p⟩:=jw cm.c3 cm.c5 cm.c6;clear b;go_wp2_with fail;refine(f _).mono ?_;rintro e y ⟨rfl,dw⟩;have eB:=dw.symm;subst eB;rw [<-z.o];have cN:=yh aq;clear f dw aq cm;go_wp2_with fail;go_quiet (fail);go_wp2;go_ret;exact⟨rfl,below_drewN cN.o _⟩
     .exact absurd (aA D) d
 .simp only [aE (λh=>g h:¬L.bd S=0)];have K:(L.bd S == 0)=false:=by rw [eG];exact g
  clear d g;go_in;go_wp2_with fail;refine bE b λw1 aq=>?_;have cm:=i.o.later aq;obtain⟨l,m,p⟩:=jw cm.c3 cm.c5 cm.c6;clear b;go_wp2_with fail;refine(f _).mono ?_;rintro e y ⟨rfl,dw⟩;have eB:=dw.symm;subst eB;have cN:=yh aq;clear f dw aq cm;go_wp2;go_ret;exact⟨rfl,cN.o⟩
theorem wm (h:aB w F r s S) (i:cH w k r L) (n:L.Ok s) (p:¬F k) (cZ:S.fC) (a:Option Addr) (x c:Nat) (d:List Int) (l:Src w a x d) (Ue:∀y,a=some y->0<x->¬F y.block) (hd:Bytes d) (m:x<=c) (q:x<=140737488355328) (aT:S.puts.length+100<=4000000000000):
  Calls prog 143 #[pQ k, .slice a x c] w λe w'=>e= .returned (iV (L.append S s d).1)/\aB w' (more F w w') r s (L.append S s d).2.1/\cH w' k r (L.append S s d).2.2/\aa (λj=>F j\/j=k) w w':=by
 by_cases f:L.fN S x=0
 .have jA:=(jC f).2.1;obtain⟨b,o,rfl⟩:=cT l jA;exact KD h i n p cZ b o x c d l (Ue _ rfl jA) hd m f aT
 .refine(KE h i n a x c q f).mono ?_;rintro e w' ⟨rfl,g⟩;unfold LG.append;rw [l.1,aE f];exact⟨rfl,(h.later g).more,i.later g,aa.ah _ g⟩
end
end
section
section
variable {w w' w1 w2:World} {F X Y:Nat->Prop} {r s k kl t hm:Nat} {S:DS} {G:SG} {T:TG} {L:LG} {v u pv nv tv:Value} {ps qs us:List (Nat×List Int)} {xs ys:List Value}
theorem PL.adY (h:PL w X v ps xs) {o:Obj} {b:Nat} (A:ay w 5 g c (bs l)) (z:l.length=512/\Bytes l)
    (az:w2.ownsRow 0 166 2 (.slice (some (aD g2 0)) (ps.length+1) bZ) (ps.length+1) (xs ++ [iV (b:Int), .slice (some (aD g 0)) 512 c]))
    (aO:(w.alloc o).grownBy w2 v.ownBlock) (x:∀i (_hi:i<ps.length) f c',xs[2*i+1]? =some (.slice (some (aD f 0)) 512 c')->Y f) (n:Y g) (m:Y g2):
  PL w2 Y (.slice (some (aD g2 0)) (ps.length+1) bZ) (ps ++ [(b,l)]) (xs ++ [iV (b:Int), .slice (some (aD g 0)) 512 c])/\aa (λj=>v.ownBlock=some j) w w2:=by
 have YA:(w.alloc o).heap.size=w.heap.size+1:=by simp
 have ju:=aO.size;have d:=λj a p=>(aO.block j (by omega) p).trans (Below.heap_alloc _ _ _ a);have Md:∀j c r,ay w 5 j c r->ay w2 5 j c r:=λj c r a=>by
  have AX:=a;obtain⟨cur,ie,_⟩:=AX;exact a.agree (d j a.lt (λe=>dR h.own e.symm ie (by decide) rfl))
 have Fb:=h.own.1;refine⟨⟨by rw [dT];exact az,λj a=>?_,λi y=>?_,λq k=>?_⟩,⟨aO.os,aO.tape,aO.output,by omega,λj a p=>d j a (λe=>p e.symm)⟩⟩
 .have e:j=g2:=by simpa [Value.ownBlock] using a.symm
  rw [e];exact m
 .by_cases nj:i<ps.length
  .obtain⟨f,c',t,s,C,u⟩:=h.put i nj;refine⟨f,c',?_,?_,x i nj f c' s,?_⟩
   .rw [List.getElem?_append_left (by omega),t,List.getElem_append_left nj]
   .rw [List.getElem?_append_left (by omega),s]
   .rw [List.getElem_append_left nj];exact Md _ _ _ u
  .have Dm:i=ps.length:=(by simp at y;omega);subst Dm;refine⟨g,c,?_,?_,n,?_⟩
   .rw [List.getElem?_append_right (by omega),show 2*ps.length-xs.length=0 by omega];simp
   .rw [List.getElem?_append_right (by omega),show 2*ps.length+1-xs.length=1 by omega];simp
   .simpa using Md _ _ _ A
 .rcases List.mem_append.1 k with k|k
  .exact h.len q k
  .rw [List.mem_singleton.1 k];exact z
def Pn (w:World) (X:Nat->Prop) (B:Nat) (v:Value) (ps:List (Nat×List Int)):Prop:=
 ∃xs,PL w (λj=>X j\/v.ownBlock=some j) v ps xs/\(∀g,v.ownBlock=some g->B<=g)/\∀i (_:i<ps.length) g c,xs[2*i+1]? =some (.slice (some (aD g 0)) 512 c)->X g
theorem Pn.nil (w:World) (X:Nat->Prop) (B:Nat):Pn w X B (.slice none 0 0) []:=by
 obtain⟨xs,h⟩:=Pl.nil w (λj=>X j\/(Value.slice none 0 0).ownBlock=some j);exact⟨xs,h,λg e=>by simp [Value.ownBlock] at e,λi a=>by simp at a⟩
theorem Pn.pl {B:Nat} (h:Pn w X B v ps):Pl w (λj=>X j\/v.ownBlock=some j) v ps:=by obtain⟨xs,h,_⟩:=h;exact⟨xs,h⟩
theorem Pn.lo {B:Nat} (h:Pn w X B v ps):∀g,v.ownBlock=some g->B<=g:=by obtain⟨xs,_,h,_⟩:=h;exact h
theorem Pn.au {B:Nat} {Z:Nat->Prop} (h:Pn w X B v ps) (e:aa Z w w') (f:∀g,v.ownBlock=some g->¬Z g) (hd:∀g c ys,(X g\/v.ownBlock=some g)->ay w 5 g c ys->¬Z g):Pn w' X B v ps:=by
 obtain⟨xs,a,b,d⟩:=h;exact⟨xs,a.au e f hd,b,d⟩
theorem Pn.later {B:Nat} (h:Pn w X B v ps) (a:bW w w'):Pn w' X B v ps:=h.au (aa.ah (λ_=>False) a) (λ_ _ h=>h) (λ_ _ _ _ _ h=>h)
theorem Pn.adZ {B:Nat} (h:Pn w X B v ps) {b:Nat} (n:X g) (u:ay w 5 g c (bs l)) (r:l.length=512/\Bytes l) (z:ps.length<=1000000) (y:B<=w.heap.size):
  ∃g2 bZ w2,(Builtin.append_ #[127,127] 127 #[v, .slice (some (aD w.heap.size 0)) 1 1]).run prog (w.alloc (.cells #[.int .i64 (b:Int), .slice (some ⟨g,0,none⟩) 512 c] 166))= .ok (.slice (some (aD g2 0)) (ps.length+1) bZ) w2/\Pn w2 X B (.slice (some (aD g2 0)) (ps.length+1) bZ) (ps ++ [(b,l)])/\aa (λj=>v.ownBlock=some j) w w2:=by
 obtain⟨xs,a,o,k⟩:=h;obtain⟨x,rt,gv,dr,ec⟩:=info_parts pT;obtain⟨g2,bZ,w2,bC,az,aO,ic,bm⟩:=run_append_lies (P:=prog) (w.alloc (.cells #[.int .i64 (b:Int), .slice (some ⟨g,0,none⟩) 512 c] 166)) 127 127 0 166 x _ 2 32 underlying127 rt gv dr ec rfl (by omega) v ps.length xs (aC a.own (λj e=>Below.heap_alloc w _ _ (pU a.own e))) (aD w.heap.size 0) 1 1 [iV (b:Int), .slice (some (aD g 0)) 512 c] (by rfl) (World.news_of_block (cs:= #[iV (b:Int), .slice (some (aD g 0)) 512 c]) (t:=166) (fr:=(0,0)) (heap_alloc_new w _)) (by simp [Value.oneCell']) (by omega) (by unfold maxLen;omega) (by omega) (dU _) (w.heap.size+1) (by simp);obtain⟨s,q⟩:=a.adY (Y:=λj=>X j\/(Value.slice (some (aD g2 0)) (ps.length+1) bZ).ownBlock=some j) u r az aO (λi f d c' e=> .inl (k i f d c' e)) (.inl n) (.inr rfl);have Fb:=a.own.1;refine⟨g2,bZ,w2,bC,⟨_,s,λj p=>?_,λi f d c' e=>?_⟩,q⟩
 .have e:j=g2:=by simpa [Value.ownBlock] using p.symm
  rcases ic with m|m
  .rw [e];exact o g2 m
  .omega
 .by_cases nj:i<ps.length
  .rw [List.getElem?_append_left (by omega)] at e;exact k i nj d c' e
  .have Dm:i=ps.length:=(by simp at f;omega);subst Dm;rw [List.getElem?_append_right (by omega),show 2*ps.length+1-xs.length=1 by omega] at e;simp at e;rw [<-e.1];exact n
theorem Oj (d:List Int) (hd:(L.append S s d).2.2.dead (L.append S s d).2.1=false):L.dead S=false:=by
 unfold LG.append at hd;split at hd
 .exact hd
 .rename_i q;cases a:L.dead S
  .rfl
  .exfalso;apply q;unfold LG.fN LG.bd;rw [a];simp
end
end
section
section
variable {S:DS} {s f:Nat} {L:LG} {G:SG}
theorem nM (h:S.Ok s) (e:f+1<s) (num:Int):(cW S s f num).2.Ok s/\∀j,f+2<=j->j<s->(cW S s f num).2.now j=S.now j:=by
 unfold cW;by_cases a:S.fuse=0
 .rw [aE a];exact⟨h,λ_ _ _=>rfl⟩
 .rw [aA a];by_cases c:(aN (S.now f) (S.now (f+1)) num []).2.2≠0
  .rw [aE c];exact⟨h,λ_ _ _=>rfl⟩
  .rw [aA c];have mL:=fL (S.now f) (S.now (f+1)) num [];have Ff:=kD (S.now f) (S.now (f+1)) num [] (by omega);generalize aN (S.now f) (S.now (f+1)) num []=Y at*;rw [show (f:Int)+(Y.1:Int)=((f+Y.1:Nat):Int) by omega];by_cases d:(S.wr s ((f+Y.1:Nat):Int) 512 Y.2.1).1≠0
   .exact absurd (Q2 (by omega) d).2 a
   .rw [aA d];have Nz:=tP h a (show f+Y.1<s by omega) Ff;refine⟨qx Nz,λj g b=>?_⟩;rw [eU Nz b,jD a (by omega),aA (by omega)]
theorem qd (h:S.Ok s):(L.sync S s).2.Ok s/\(L.sync S s).2.life=S.life/\∀j,j<s->(L.sync S s).2.now j=S.now j:=by
 unfold LG.sync;split
 .exact⟨h,rfl,λ_ _=>rfl⟩
 .exact⟨qx h,fO _ _,λj a=>eU h a⟩
theorem G4 (h:S.Ok s) (k:L.f+1<s):(L.trim S s).2.1.Ok s/\∀j,L.f+2<=j->j<s->(L.trim S s).2.1.now j=S.now j:=by
 obtain⟨c,_,b⟩:=qd (L:=L) h;obtain⟨g,i⟩:=nM c k ((L.ep:Int)*4294967296+(L.head:Int));unfold LG.trim;split
 .exact⟨c,λj _ e=>b j e⟩
 .split
  .exact⟨c,λj _ e=>b j e⟩
  .split
   .exact⟨g,λj d a=>(i j d a).trans (b j a)⟩
   .exact⟨g,λj d a=>(i j d a).trans (b j a)⟩
theorem R7 {E P:Nat} (h:S.Ok s) (d:1<=n) (k:f+2+n<=s) (g:l.length<=492):(jM S s f n E P i c l).2.Ok s/\∀j,f+2+n<=j->(jM S s f n E P i c l).2.now j=S.now j:=by
 have:=Nat.mod_lt P d;have a:(kE E P i c l).length<=504:=by rw [uW];omega
 unfold jM;by_cases b:S.fuse=0
 .rw [aE b];exact⟨h,λ_ _=>rfl⟩
 .rw [aA b];exact⟨tP h b (by omega) (so (br h (f+2+P%n) (by omega)) a).2,λj e=>by rw [jD b (by omega),aA (by omega)]⟩
theorem CU (h:S.Ok s) (o:1<=L.n) (p:L.f+2+L.n<=s) {d:List Int}:∀k,(cP L S s d k).2.Ok s/\∀j,L.f+2+L.n<=j->(cP L S s d k).2.now j=S.now j
 |0=>⟨h,λ_ _=>rfl⟩
 |k+1=>by
  obtain⟨b,g⟩:=CU h o p (d:=d) k;by_cases e:(cP L S s d k).1=0
  .have a:cP L S s d (k+1)=jM (cP L S s d k).2 s L.f L.n L.ep (L.head+k) k (cY d.length) (partOf d k):=jm e;have t:(partOf d k).length<=492:=(by unfold partOf;rw [List.length_take];omega);obtain⟨q,r⟩:=R7 (n:=L.n) (f:=L.f) (E:=L.ep) (P:=L.head+k) (i:=k) (c:=cY d.length) (l:=partOf d k) b o p t;rw [a];exact⟨q,λj m=>(r j m).trans (g j m)⟩
  .have a:cP L S s d (k+1)=cP L S s d k:=gw e (k+1) (by omega);rw [a];exact⟨b,g⟩
theorem Ai (h:S.Ok s) (a:1<=L.n) (b:L.f+2+L.n<=s) (d:List Int):(L.append S s d).2.1.Ok s/\∀j,L.f+2+L.n<=j->(L.append S s d).2.1.now j=S.now j:=by
 unfold LG.append;split
 .exact⟨h,λ_ _=>rfl⟩
 .split <;> exact CU h a b _
end
section
variable {w w':World} {F X:Nat->Prop} {r s k kl t hm:Nat} {S:DS} {G:SG} {pv nv:Value} {ps:List (Nat×List Int)}
theorem vw {S:DS} {f:Nat} (a:S'.now f=S.now f) (b:S'.now (f+1)=S.now (f+1)):S'.num f=S.num f:=by unfold DS.num;rw [a,b]
theorem kX.home {y:LY} (h:kX w k r kl y pv hm nv) (n:Nat):kX (w.setCell ⟨k,8,none⟩ (.int .i64 (n:Int))) k r kl y pv n nv:=
   (heap_setCell_same _ _ 8 _ _ _ h).trans (by simp)
theorem PV.drop (h:PV w X v ps) (n:Nat) (A:n<=ps.length) {b o:Nat} (u:v= .slice (some (aD b o)) ps.length c) (c':Nat):PV w X (.slice (some ⟨b,o+n*2,none⟩) (ps.length-n) c') (ps.drop n):=by
 obtain⟨⟨a,y,d,p⟩,s⟩:=h;rw [u] at d;cases d;refine⟨⟨_,_,by rw [List.length_drop],λh0=>?_⟩,λq t=>s q (List.mem_of_mem_drop t)⟩;rw [List.length_drop] at h0;obtain⟨z,C,e,x,r⟩:=p (by omega);cases e;refine⟨b,o+n*2,rfl,x,λi bm=>?_⟩;rw [List.length_drop] at bm;obtain⟨g,f,j,k,l,m⟩:=r (n+i) (by omega);refine⟨g,f,?_,?_,l,?_⟩
 .rw [List.getElem_drop,show o+n*2+i*2=o+(n+i)*2 by omega];exact j
 .rw [show o+n*2+i*2+1=o+(n+i)*2+1 by omega];exact k
 .rw [List.getElem_drop];exact m
theorem iz.checked (h:iz w F X r s S k kl G pv ps hm nv) (dh:S.Ok s):∃hm',hm'<=ps.length/\(hm'=if (G.check S s).1=0 then ps.length else hm)/\(G.check S s).2.2.ov=CM.bX [] (ps.drop hm')/\(G.check S s).2.2.y=G.y/\(G.check S s).2.2.L.f=G.L.f/\(G.check S s).2.2.L.n=G.L.n/\(G.check S s).2.1.Ok s/\
    ((G.check S s).2.2.L.dead (G.check S s).2.1=false->∀b,b<G.y.blocks->CM.get (G.check S s).2.2.ov b=none->∀c,fnd ps b=some c->(G.check S s).2.1.now (G.y.home+b)=c):=by
 have Ed:∀q∈G.ov,G.y.home+q.1<s/\q.2.length=512:=λq o=>by
  rw [h.ov] at o;have:=List.mem_of_mem_drop (eO o);exact⟨by have:=h.kb q this;have:=h.hs;omega,(h.pl.len q this).1⟩
 have g:CM.Ok G.ov:=by rw [h.ov];exact mB _
 have BE:=h.lh;have XB:=h.hs;have H:∀b,CM.get G.ov b=fnd (ps.drop hm) b:=λb=>by rw [h.ov];exact gL _ _
 have I:∀b,fnd ps b=(fnd (ps.drop hm) b).or (fnd (ps.take hm) b):=λb=>by rw [<-lX,List.take_append_drop]
 obtain⟨p,J,C⟩:=qd (L:=G.L) dh;obtain⟨K,M,v,D,E⟩:=ev (h0:=G.y.home) (ms:=G.ov) p Ed;obtain⟨x,z⟩:=G4 (L:=G.L) v (by omega);have YG:=h.un;have ZV:(G.L.sync S s).1=0->G.L.dead S=false:=λa=>by
  unfold LG.sync at a;split at a
  .rename_i q;exact absurd a q
  .rename_i q;unfold LG.bd at q;cases hd:G.L.dead S
   .rfl
   .rw [hd] at q;simp at q
 have ic:=λ(b:Nat) (c:List Int)=>CR (b:=b) (c:=c) p g Ed;have Du:(G.L.sync S s).1≠0->(G.L.sync S s).2=S:=λa=>by
  unfold LG.sync at a⊢;split
  .rfl
  .rename_i q;rw [aA q] at a;exact(lf a).1
 unfold SG.check;generalize G.L.sync S s=Z at*;by_cases j:Z.1≠0
 .rw [aE j];refine⟨hm,h.hm,by rw [aA j],h.ov,rfl,rfl,rfl,p,?_⟩;rw [Du j];exact YG
 .rw [aA j];generalize sbring Z.2 s G.y.home G.ov=Y at*;by_cases l:Y.1≠0
  .rw [aE l];refine⟨hm,h.hm,by rw [aA l],h.ov,rfl,rfl,rfl,v,λhd=>?_⟩;have:=D l;unfold LG.dead at hd;rw [this] at hd;simp at hd
  .rw [aA l];have lI:∀b,b<G.y.blocks->CM.get G.ov b=none->∀c,fnd ps b=some c->(G.L.trim Y.2 s).2.1.now (G.y.home+b)=c:=λb t d c i=>by
    rw [z _ (by omega) (by omega),E _ (λq o e=>?_),C _ (by omega)]
    .exact YG (ZV (Decidable.not_not.1 j)) b t d c i
    .have:q.1=b:=(by omega);have A:=CM.get_of_mem g (k:=q.1) (c:=q.2) o;rw [this,d] at A;cases A
   have m:(G.L.trim Y.2 s).2.2.f=G.L.f/\(G.L.trim Y.2 s).2.2.n=G.L.n:=by
    unfold LG.trim;split
    .exact⟨rfl,rfl⟩
    .split
     .exact⟨rfl,rfl⟩
     .split <;> exact⟨rfl,rfl⟩
   by_cases u:(G.L.trim Y.2 s).1≠0
   .rw [aE u];exact⟨hm,h.hm,by rw [aA u],h.ov,rfl,m.1,m.2,x,λ_=>lI⟩
   .rw [aA u];refine⟨ps.length,bP _,by rw [aE rfl],?_,rfl,m.1,m.2,x,λ_ b t _ c i=>?_⟩
    .rw [List.drop_length];rfl
    .cases d:CM.get G.ov b with
     |none=>exact lI b t d c i
     |some c'=>
      have:c'=c:=by
       rw [I,<-H,d] at i;exact Option.some.inj i
      subst this;show (G.L.trim Y.2 s).2.1.now (G.y.home+b)=c';rw [z _ (by omega) (by omega)];exact ic b c' (Decidable.not_not.1 l) d
end
end
end Go.Proofs.YtenlkgicpllbhaaGreat
