import Derived.Test.YtenlkgicpllbhaaGreatW01
import Derived.Test.YtenlkgicpllbhaaGreatW04
set_option maxRecDepth 20000
set_option maxHeartbeats 8000000
set_option linter.all false
namespace Go.Proofs.YtenlkgicpllbhaaGreat
open Go.Proofs.Tryz
open Go.RowKit Go.Maps
variable {a:Int} {l s:List Int} {g i n:Nat} {v:Value} {w:World} {C:World->Prop}
theorem Qr (a:Option Addr) (n c:Nat) (b:Option Addr) (m d:Nat) (w:World) (f:n≠512):
  Calls prog 236 #[.slice a n c, .slice b m d] w λe w'=>e= .returned (.tuple #[.slice none 0 0,iV 2])/\bW w w':=by
 obtain⟨k,g,aU,dI⟩:=cM jc (pC a n c w f) yG yF;generalize bh=Z at*;have bR:Z.all Value.oneCell'=true:=all_oneCell_toArray dI;go_in;go_wp2_with fail;refine bE g λw1 aq=>?_;have bN:(w1.alloc (.cells Z 211)).heap[w1.heap.size]? =some (.cells Z 211 (0,0)):=heap_alloc_new _ _;have dZ:(w1.alloc (.cells Z 211)).there w1.heap.size 0 Z.toList.length:=cE bN (by simp);have bK:bW w (w1.alloc (.cells Z 211)):=aq.alloc aq.size _;have ef:=aq.size;have A8:=(bK.trans ((aa.setCells (F:=λj=>j=w1.heap.size) rfl Z.toList 0 _).below (λj i=>by omega) bK.size));go_wp2_with (refine wpList_store_mid rfl 211 _ _ rfl w1.heap.size 0 Z rfl rfl ?h1 ?h2 bR ?_);case h1=>simpa using dZ
 case h2=>simpa using aU
 go_ret2;exact⟨rfl,A8⟩
theorem Qs (b o c:Nat) (old:List Int) (d:Option Addr) (m f:Nat) (w:World) (a:Src w (some (aD b o)) 512 old) (i:504<m):
  Calls prog 236 #[.slice (some (aD b o)) 512 c, .slice d m f] w λe w'=>e= .returned (.tuple #[.slice none 0 0,iV 7])/\bW w w':=by
 have k:=jc;have hm':504<(m:Int):=by omega
 have ed:=mj b o c old w a;have aU:=iY (l:=old) a.1;have dI:=cB old;have jT:(bs old).length=512:=by rw [bs,List.length_map,a.1]
 generalize bs old=F at*;have bR:=all_oneCell_toArray dI;go_in;go_wp2_with fail;refine bE ed λw1 aq=>?_;have bN:(w1.alloc (.cells bh 211)).heap[w1.heap.size]? =some (.cells bh 211 (0,0)):=heap_alloc_new _ _;have dZ:=cE bN cI;rw [<-jT] at dZ;have bK:bW w (w1.alloc (.cells bh 211)):=aq.alloc aq.size _;have ef:=aq.size;have A8:=yh (bK.trans ((aa.setCells (F:=λj=>j=w1.heap.size) rfl F 0 _).below (λj g=>by omega) bK.size));go_wp2_with (refine wpList_store_mid rfl 211 _ _ rfl w1.heap.size 0 F.toArray rfl rfl ?h1 ?h2 bR ?_);case h1=>simpa using dZ
 case h2=>simpa using aU
 go_ret2;exact⟨rfl,A8.out⟩
theorem UZ (b o c:Nat) (old:List Int) (f:Option Addr) (m q:Nat) (body:List Int) (w:World) (d:Src w (some (aD b o)) 512 old) (bo:Src w f m body) (y:m<=504) (v:Bytes body):
  Calls prog 236 #[.slice (some (aD b o)) 512 c, .slice f m q] w λe w'=>∃g,e= .returned (.tuple #[.slice (some (aD g 0)) 512 512,iV 0])/\jX w' 211 g (be (cD (old.getD 0 0) (old.getD 511 0)) body)/\w.heap.size<=g/\bW w w':=by
 obtain⟨A,ed,aU,dI⟩:=cM jc (mj b o c old w d) (iY (l:=old) d.1) (cB old);have jT:(bs old).length=512:=by rw [bs,List.length_map,d.1]
 obtain⟨aco,bR,p,Bj,z⟩:=ey d.1 (all_oneCell_toArray dI) (yh bo) bo.1 (gd (old.getD 0 0) (old.getD 511 0));obtain⟨t,wK⟩:=bQ (cD (old.getD 0 0) (old.getD 511 0));rw [<-wK] at z;obtain⟨F,k⟩:=bQ (bs old);rw [<-k] at ed aU dI jT bR;clear dI d bo;go_in;go_wp2_with fail;refine bE ed λw1 aq=>?_;have bN:(w1.alloc (.cells bh 211)).heap[w1.heap.size]? =some (.cells bh 211 (0,0)):=heap_alloc_new _ _;have dZ:=cE bN cI;rw [<-jT] at dZ;have bK:bW w (w1.alloc (.cells bh 211)):=aq.alloc aq.size _;have ef:=aq.size;have eM:=bK.trans ((aa.setCells (F:=λj=>j=w1.heap.size) rfl F 0 _).below (λj x=>by omega) bK.size);have aZ:=eE (l:=old) bN (by rw [cI,aco]);rw [<-k] at aZ;have Jv:=oe w1.heap.size 0 (old.getD 0 0) (old.getD 511 0) _ (aZ.cell (by omega)) (aZ.cell (i:=511) (by omega));rw [<-wK] at Jv;have wL:=oh t f m q body _ (by omega) (p.o.later eM) y v;obtain⟨C,dw⟩:=bQ ((w1.alloc (.cells bh 211)).setCells w1.heap.size 0 F);rw [<-dw] at Jv wL eM;obtain⟨dE,Qt⟩:=bL eM wK;clear ed bN bK aq aZ eM wK k p;go_wp2_with (refine wpList_store_mid rfl 211 _ _ rfl w1.heap.size 0 F.toArray rfl rfl ?h1 ?h2 bR ?_);case h1=>simpa using dZ
 case h2=>simpa using aU
 rw [<-dw];refine bE Jv λw' r=>?_;have ez:=r.symm;subst ez;clear r Jv dZ dw bR aU;have jL:(be t body).length=512:=fj (by omega);have aU:=iY (l:=be t body) jL;have bR:=all_oneCell_toArray (cB (be t body));have DG:(bs (be t body)).length=512:=by rw [bs,List.length_map,jL]
 obtain⟨G,n⟩:=bQ (bs (be t body));rw [<-n] at wL aU bR DG;have s:=yh n;clear n;go_wp2_with fail;refine bE wL λa bz=>?_;have jK:=dE.o.trans (bz.mono dE.o.size);have eB:(a.alloc (.cells bh 211)).heap[a.heap.size]? =some (.cells bh 211 (0,0)):=heap_alloc_new _ _;have dZ:=cE eB cI;rw [<-DG] at dZ;have aZ:=eE (l:=be t body) eB (by rw [cI,jL]);rw [<-s.o] at aZ;have Dj:=jK.size;have sW:bW w (a.alloc (.cells bh 211)):=jK.alloc jK.size _;rw [Qt.o] at aZ;have u:=yh (aF aZ (aF jK.size (sW.trans ((aa.setCells (F:=λj=>j=a.heap.size) rfl G 0 _).below (λj x=>by omega) sW.size))));clear wL jK eB aZ sW bz dE;go_wp2_with (refine wpList_store_mid rfl 211 _ _ rfl a.heap.size 0 G.toArray rfl rfl ?h1 ?h2 bR ?_);case h1=>simpa using dZ
 case h2=>simpa using aU
 go_ret2;exact⟨a.heap.size,rfl,u.o⟩
theorem b9 {b:Array Oper} {rest:List Oper} {o:Oper} {a:Act} {Q:Exit->Act->World->Prop} (FQ:o.guard=none) (s x:Operand)
    (l7:o.op=Op.call {callee:=Callee.builtin Builtin.append,args:= #[s,x],argTypes:= #[36,36]})
    (B:Nat) (v:Value) (l:List Int) (y:Int) (m:a.eval s=v) (n:a.eval x= .slice (some (aD w.heap.size 0)) 1 1) (az:Own w B v l) (d:l.length<=140737488355327) (i:B<=w.heap.size)
    (j:∀c w',Own w' B c (l ++ [y])->Below B w w'->wpList prog b Q rest (a.put o.dst c) w'):
  wpList prog b Q (o :: rest) a (w.alloc (.cells #[.int .u8 y] 5)):=by
 obtain⟨p,k,gv,dr,ec⟩:=info_parts fW;have f:w.ownsRow B 5 1 v l.length (bs l):=az;refine wpList_append_own _ FQ s x 36 l7 B 5 p (.int .u8 0) 1 1 underlying36 k gv dr ec rfl (by decide) v l.length (bs l) m (f.alloc _) (aD w.heap.size 0) 1 1 [.int .u8 y] n rfl (cell_one_new _ _ _) (by intro u g;simp at g;subst g;rfl) (by unfold maxLen;omega) (by omega) (by simp;omega) ?_;intro c w1 cJ kU _;refine j c w1 ?_ (((bi _ w).alloc i _).grown kU (by simp;omega) (λq e=>(f.lt q e).1));rw [UW] at cJ;exact DC cJ (by simp) rfl
def lenV:Value->Nat
 | .slice _ n _=>n
 |_=>0
theorem Own.U1 {B:Nat} (h:Own w B v l) (h0:0<l.length):∃g c,v= .slice (some (aD g 0)) l.length c/\B<=g/\ay w 5 g c (bs l):=by
 obtain⟨a,c,rfl,_,_,_⟩:=h.src;obtain⟨g,rfl,_,b,d⟩:=h.row h0;exact⟨g,c,rfl,b,d⟩
theorem ay.get {e:TypeId} {c:Nat} (h:ay w e g c (bs l)) (a:i<l.length):w.cell? (aD g i)=some (.int .u8 (l.getD i 0)):=by
 have:=h.byte a;rwa [aK,Nat.zero_add] at this
theorem Bo (a b:List Int) (x:Int):a ++ b ++ [x]=a ++ (b ++ [x]):=List.append_assoc _ _ _
theorem U2 (k:Nat):zs k ++ [0]=zs (k+1):=by rw [lM];rfl
theorem Cg (t:Nat) (a:Option Addr) (n c:Nat) (body:List Int) (w:World) (ht:t<256) (hs:Src w a n body) (hn:n<=504) (hb:Bytes body):
  Calls prog 217 #[iV (t:Int), .slice a n c] w λe w'=>∃v,e= .returned v/\Own w' w.heap.size v (be t body)/\bW w w':=by
 have H:=yh hs;have Bj:=hs.1;have q1:((n:Int)).tmod 256=((n%256:Nat):Int):=by rw [Int.tmod_eq_emod_of_nonneg (by omega)];omega
 have q2:((n:Int)).tdiv 256=((n / 256:Nat):Int):=by rw [Int.tdiv_eq_ediv_of_nonneg (by omega)];omega
 clear hs;go_in;go_wp2_with (at_builtin;refine b9 rfl _ _ rfl w.heap.size _ [] _ rfl rfl (Own.nil w _) ?b1 ?b2 ?_);case b1=>simp
 case b2=>exact bP _
 intro v1 w1 tz aq;have dr:=aq.size;have I:=yh tz;have cN:=yh aq;clear tz aq;go_wp2_with (at_builtin;refine b9 rfl _ _ rfl w.heap.size v1 _ _ rfl rfl I.o ?b1 ?b2 ?_);case b1=>simp
 case b2=>exact dr
 intro v2 w2 jo aW;have acp:Own w2 w.heap.size v2 ([((n%256:Nat):Int),((n / 256:Nat):Int)] ++ body.take 0):=jo;obtain⟨A,dE⟩:=bL acp (cN.o.trans (aW.mono (bP _)));obtain⟨hd,y⟩:∃hd,hd= [((n%256:Nat):Int),((n / 256:Nat):Int)]:=⟨_,rfl⟩;have sX:hd.length=2:=by rw [y];rfl
 rw [<-y] at A;have G:=yh y;clear jo acp aW y I cN dr q1 q2;go_wp2;go_loopw [5,6] (λv i wr=>∃k:Nat,k<=n/\i=iV k/\Own wr w.heap.size v (hd ++ body.take k)/\bW w wr) (λ_ i _=>n-(intOf i).toNat);case atStart=>exact⟨0,dU _,rfl,A.o,dE.o⟩
 case round=>
  clear A dE;obtain⟨k,hk,rfl,az,dO⟩:=hrel;have bq:=yh az;have f:=yh dO;have r:=dO.size;clear az dO;by_cases bm:k<n
  .have cw:(k:Int)<(n:Int):=(by omega);obtain⟨x0,rfl⟩:∃x,a=some x:=by
    cases a with
    |none=>have:=H.o.2.1 rfl;omega
    |some x=>exact⟨x,rfl⟩
   obtain⟨b,o,rfl,du⟩:=H.o.spot (by omega);have hc:=cell_later f.o (du k bm);have Ci:=yh (jW body k (by omega));clear du;generalize body.getD k 0=x at*;go_wp2_with (at_builtin;refine b9 rfl _ _ rfl w.heap.size u5 _ x rfl rfl bq.o ?b1 ?b2 ?_);case b1=>simp;omega
   case b2=>exact r
   intro z w' p eC;have u:Yh (Own w' w.heap.size z (hd ++ body.take (k+1))):=(by rw [<-Ci.o];exact p);have wN:=yh (f.o.trans (eC.mono (bP _)));clear p eC bq f Ci;go_wp2;go_roundw;case rel=>exact⟨k+1,by omega,by go_num,u.o,wN.o⟩
   case measure=>simp [intOf];omega
  .have cw:¬(k:Int)<(n:Int):=(by omega);have e:body.take k=body:=nh (by omega);rw [e] at bq;clear e;have iW:Yh (Own wr w.heap.size u5 (hd ++ body ++ zs 0)):=(by show Own wr w.heap.size u5 (hd ++ body ++ []);rw [List.append_nil];exact bq.o);obtain⟨T,hT⟩:=bQ (hd ++ body);have S:T.length=2+n:=(by rw [hT];simp;omega);rw [<-hT] at iW;have HT:=yh hT;clear hT bq;go_wp2;go_loopw [5] (λv wr=>∃k:Nat,k<=504-n/\Own wr w.heap.size v (T ++ zs k)/\bW w wr) (λv _=>506-lenV v);case atStart=>exact⟨0,dU _,iW.o,f.o⟩
   case round=>
    clear iW f r;obtain⟨j,hj,az,dO⟩:=hrel;obtain⟨MX,D,rfl,_,_,_⟩:=az.src;have d:(T ++ zs j).length=2+n+j:=(by rw [dT,bB,S]);rw [d] at az;have bq:=yh az;have f:=yh dO;have r:=dO.size;clear az dO;rw [d];by_cases hlj:j<504-n
    .have ahJ:((2+n+j:Nat):Int)<506:=(by omega);obtain⟨N,Z⟩:=bQ (2+n+j);rw [<-Z] at ahJ d bq⊢;have HN:=yh Z;clear Z;go_wp2_with (at_builtin;refine b9 rfl _ _ rfl w.heap.size (.slice MX N D) _ 0 rfl rfl bq.o ?b1 ?b2 ?_);case b1=>omega
     case b2=>exact r
     intro z w' p eC;have u:Yh (Own w' w.heap.size z (T ++ zs (j+1))):=(by rw [<-U2,<-Bo];first|exact p|(rw [List.append_assoc];exact p));have wN:=yh (f.o.trans (eC.mono (bP _)));clear p eC bq f;go_wp2;go_roundw;case rel=>exact⟨j+1,by omega,u.o,wN.o⟩
     case measure=>
      obtain⟨a1,U,rfl,_,_,_⟩:=u.o.src;have:(T ++ zs (j+1)).length=2+n+(j+1):=(by rw [dT,bB,S]);have Z:=HN.o;simp only [lenV,this];omega
    .obtain rfl:j=504-n:=(by omega);have e6:2+n+(504-n)=506:=(by omega);rw [e6] at bq d⊢;have eT:T ++ zs (504-n)=nx body:=by
      rw [HT.o,G.o,<-Bj];simp [nx,zs]
     rw [eT] at bq d;have Qu:=vN hb (by omega);have L:=ng Qu;obtain⟨E,W⟩:=bQ (sumOf (nx body));obtain⟨X,F⟩:=bQ (nx body);have Xm:X.drop 2=body ++ zs (504-n):=(by rw [F,<-Bj];simp [nx,zs]);have rl:X.getD 0 0=((n%256:Nat):Int):=(by rw [F,<-Bj];rfl);have jA:X.getD 1 0=((n / 256:Nat):Int):=(by rw [F,<-Bj];rfl);have jz:be t body= [(t:Int),X.getD 0 0,X.getD 1 0] ++ leb 4 E ++ X.drop 2 ++ [(t:Int)]:=by
      rw [Xm,rl,jA,W,ach,<-Bj];simp [be,zs]
     rw [<-F] at bq d Qu;rw [<-W] at L;have kR:=yh jz;have Xn:E=sumOf X:=(by rw [W,F]);clear jz Xm rl jA W F eT e6 HT G;have Qv:=bq.o;rw [<-d] at Qv;obtain⟨g,ct,vQ,hgB,aY⟩:=Own.U1 (l:=X) Qv (by omega);have hae:MX=some (aD g 0):=(by cases vQ;rfl);have hce:D=ct:=(by cases vQ;rfl);subst hae;subst hce;have hq:=Qd (some (aD g 0)) 506 D X wr Qu (by omega) (by have:=aY.src;rw [d] at this;exact this);rw [<-Xn] at hq;have uP:=yh aY;clear Qv vQ aY bq Xn Qu hlj;go_wp2_with fail;refine bE hq λq bz=>?_;have ml:=uP.o.agree (bz.block g uP.o.lt);have jK:=f.o.trans (bz.mono f.o.size);have kO:=jK.size;have c0:=ml.get (i:=0) (by omega);have U:=ml.get (i:=1) (by omega);have Xo:=yh ml;have fS:=yh jK;clear hq bz ml jK uP f r;obtain⟨x0,rl⟩:=bQ (X.getD 0 0);obtain⟨x1,jA⟩:=bQ (X.getD 1 0);rw [<-rl] at c0;rw [<-jA] at U;rw [<-rl,<-jA] at kR;clear rl jA;go_wp2_with (at_builtin;refine b9 rfl _ _ rfl q.heap.size (.slice none 0 0) [] (t:Int) rfl rfl (Own.nil q _) ?b1 ?b2 ?_);case b1=>simp
     case b2=>exact(bP q.heap.size)
     intro v4 w4 Fc fe;obtain⟨J,jB,vS,d0,d1⟩:=ey (yh Fc) (yh fe) fe.size (cell_later fe c0) (cell_later fe U);clear Fc fe c0 U;go_wp2_with (at_builtin;refine b9 rfl _ _ rfl q.heap.size v4 _ x0 rfl rfl J.o ?b1 ?b2 ?_);case b1=>simp
     case b2=>exact vS
     intro v5 w5 FR ff;have K:=yh FR;have jd:=yh (jB.o.trans (ff.mono (bP _)));have d1':=(World.cell?_of_block (ff.block g Xo.o.lt)).trans d1;clear FR ff d0 d1 J jB vS;go_wp2_with (at_builtin;refine b9 rfl _ _ rfl q.heap.size v5 _ x1 rfl rfl K.o ?b1 ?b2 ?_);case b1=>simp
     case b2=>exact jd.o.size
     intro v6 w6 Xp ny;have C:Yh (Own w6 q.heap.size v6 ([(t:Int),x0,x1] ++ leb 0 E)):=Xp;have wO:=yh (jd.o.trans (ny.mono (bP _)));clear Xp ny d1' K jd;obtain⟨P,hP⟩:∃P,P= [(t:Int),x0,x1]:=⟨_,rfl⟩;have O:P.length=3:=(by rw [hP];rfl);rw [<-hP] at C kR;clear hP;go_wp2;go_loopw [7,8,9] (λs v i wx=>∃m:Nat,m<=4/\i=iV m/\s=iV ((E / 256 ^ m:Nat):Int)/\Own wx q.heap.size v (P ++ leb m E)/\bW q wx) (λ_ _ i _=>4-(intOf i).toNat);case atStart=>exact⟨0,dU _,rfl,by simp,C.o,wO.o⟩
     case round=>
      clear C wO;obtain⟨m,hm,rfl,rfl,az,lj⟩:=hrel;have bq:=yh az;have f:=yh lj;have r:=lj.size;clear az lj;by_cases xw:m<4
      .have Bm:(m:Int)<4:=(by omega);have e1:E / 256 ^ (m+1)=E / 256 ^ m / 256:=(by rw [Nat.div_div_eq_div_mul,Nat.pow_succ]);have e2:=iX m E;rw [show (2:Nat) ^ (8*m)=256 ^ m by rw [Nat.pow_mul]] at e2;have hQ:E / 256 ^ m<4294967296:=Nat.lt_of_le_of_lt (Nat.div_le_self _ _) L;generalize E / 256 ^ m=Q at*;have q1:((Q:Int)).tmod 256=((Q%256:Nat):Int):=(by rw [Int.tmod_eq_emod_of_nonneg (by omega)];omega);have q2:((Q:Int)).tdiv 256=((Q / 256:Nat):Int):=(by rw [Int.tdiv_eq_ediv_of_nonneg (by omega)];omega);obtain⟨Pb,LT⟩:=bL e1 e2;have jT:(P ++ leb m E).length=3+m:=(by rw [dT,O,aH]);clear e1 e2;go_wp2_with (at_builtin;refine b9 rfl _ _ rfl q.heap.size u8 _ _ rfl rfl bq.o ?b1 ?b2 ?_);case b1=>omega
       case b2=>exact r
       intro z w' p eC;have u:Yh (Own w' q.heap.size z (P ++ leb (m+1) E)):=(by rw [LT.o];first|exact p|(rw [<-List.append_assoc];exact p));have wN:=yh (f.o.trans (eC.mono (bP _)));clear p eC bq f LT;go_wp2;go_roundw;case rel=>exact⟨m+1,by omega,by go_num,by rw [Pb.o];simp,u.o,wN.o⟩
       case measure=>simp [intOf];omega
      .have Bm:¬(m:Int)<4:=(by omega);obtain rfl:m=4:=(by omega);obtain⟨R,hR⟩:=bQ (P ++ leb 4 E);have YW:R.length=7:=(by rw [hR,dT,O,aH]);rw [<-hR] at bq kR;have iW:Yh (Own wr q.heap.size u8 (R ++ (X.drop 2).take 0)):=(by show Own wr q.heap.size u8 (R ++ []);rw [List.append_nil];exact bq.o);clear hR bq hm;go_wp2;go_loopw [8,10] (λv i wx=>∃m:Nat,m<=504/\i=iV ((m+2:Nat):Int)/\Own wx q.heap.size v (R ++ (X.drop 2).take m)/\bW q wx) (λ_ i _=>506-(intOf i).toNat);case atStart=>exact⟨0,dU _,rfl,iW.o,f.o⟩
       case round=>
        clear iW f r;obtain⟨m,hm,rfl,az,lj⟩:=hrel;have bq:=yh az;have f:=yh lj;have r:=lj.size;clear az lj;have MY:(X.drop 2).length=504:=(by simp;omega);have jT:(R ++ (X.drop 2).take m).length=7+m:=(by rw [dT,YW,List.length_take];omega);by_cases xw:m<504
        .have Bm:((m+2:Nat):Int)<506:=(by omega);have hcx:=cell_later f.o (Xo.o.get (i:=m+2) (by omega));have eN:=jW (X.drop 2) m (by omega);have eX:(X.drop 2).getD m 0=X.getD (m+2) 0:=(by simp [List.getD,Nat.add_comm]);rw [eX] at eN;have Ci:=yh eN;clear eN eX;generalize X.getD (m+2) 0=x at*;generalize hM:m+2=M at*;have HM:=yh hM;clear hM;go_wp2_with (at_builtin;refine b9 rfl _ _ rfl q.heap.size u8 _ x rfl rfl bq.o ?b1 ?b2 ?_);case b1=>omega
         case b2=>exact r
         intro z w' p eC;have u:Yh (Own w' q.heap.size z (R ++ (X.drop 2).take (m+1))):=(by rw [<-Ci.o];first|exact p|(rw [<-List.append_assoc];exact p));have wN:=yh (f.o.trans (eC.mono (bP _)));clear p eC bq f Ci;go_wp2;go_roundw;case rel=>exact⟨m+1,by omega,by have:=HM.o;subst this;go_num,u.o,wN.o⟩
         case measure=>have:=HM.o;simp [intOf];omega
        .obtain rfl:m=504:=(by omega);have e5:(X.drop 2).take 504=X.drop 2:=nh (by omega);rw [e5] at bq jT;obtain⟨Y,hY⟩:=bQ (R ++ X.drop 2);rw [<-hY] at bq jT kR;clear hY e5;go_wp2_with (at_builtin;refine b9 rfl _ _ rfl q.heap.size u8 _ (t:Int) rfl rfl bq.o ?b1 ?b2 ?_);case b1=>omega
         case b2=>exact r
         intro z w' p eC;have u:Yh (Own w' w.heap.size z (be t body)):=(by rw [kR.o];exact Own.down p kO);have wN:Yh (bW w w'):=fS.o.trans ((f.o.trans (eC.mono (bP _))).mono kO);clear p eC bq f;go_wp2;go_ret;exact⟨_,rfl,u.o,wN.o⟩
theorem Jw {b:Int}:∀k:Nat,k<cD a b->(k:Int)=a\/(k:Int)=b:=by
 intro k c;unfold cD at c;split at c
 .omega
 .split at c
  .next h1 h2=>omega
  .next h1 h2=>omega
theorem MZ (a:Option Addr) (n c:Nat) (b:Option Addr) (m d:Nat) (w:World) (g:n≠512):
  Calls prog 178 #[.slice a n c, .slice b m d] w λe w'=>e= .returned (.tuple #[.slice none 0 0,iV 2])/\w'=w:=by
 have f:(((n:Int)) != 512)=true:=by rw [fT];omega
 go_in;go_wp2;go_ret2;exact⟨rfl,rfl⟩
theorem M0 (a:Option Addr) (c:Nat) (b:Option Addr) (m d:Nat) (w:World) (f:504<m):
  Calls prog 178 #[.slice a 512 c, .slice b m d] w λe w'=>e= .returned (.tuple #[.slice none 0 0,iV 7])/\w'=w:=by
 have hm':504<(m:Int):=by omega
 go_in;go_wp2;go_ret2;exact⟨rfl,rfl⟩
theorem Qw (b o c:Nat) (old:List Int) (d:Option Addr) (m l:Nat) (body:List Int) (w:World) (n:Src w (some (aD b o)) 512 old) (bo:Src w d m body) (C:m<=504) (u:Bytes body) (LU:Bytes old):
  Calls prog 178 #[.slice (some (aD b o)) 512 c, .slice d m l] w λe w'=>∃v,e= .returned (.tuple #[v,iV 0])/\Own w' w.heap.size v (be (cD (old.getD 0 0) (old.getD 511 0)) body)/\bW w w':=by
 have hm':¬504<(m:Int):=by omega
 have j:=n.2.2 _ rfl 0 (by omega);have r:=n.2.2 _ rfl 511 (by omega);rw [aK] at j r;rw [Nat.add_zero] at j;have A:=gd (old.getD 0 0) (old.getD 511 0);have q:=(Jw (a:=old.getD 0 0) (b:=old.getD 511 0));have g:=(B9 (old.getD 0 0) (old.getD 511 0));have z:=(λt (E:t<256)=>Cg t d m l body w E bo C u);obtain⟨H,I⟩:=LU.getD 0;obtain⟨J,K⟩:=LU.getD 511;generalize old.getD 0 0=x at*;generalize old.getD 511 0=y at*;generalize cD x y=t at*;go_in;go_wp2;go_loopw [6] (λi wr=>∃k:Nat,k<=t/\i=iV k/\wr=w) (λi _=>t-(intOf i).toNat);case atStart=>exact⟨0,dU _,rfl,rfl⟩
 case round=>
  obtain⟨k,G,rfl,rfl⟩:=hrel;by_cases bm:k<t
  .by_cases f:(k:Int)=x
   .have p:(x == (k:Int))=true:=(by rw [beq_iff_eq];exact f.symm);go_wp2;go_roundw;case rel=>exact⟨k+1,by omega,by go_num,trivial⟩
    case measure=>simp [intOf];omega
   .have s:=(q k bm).resolve_left f;have p:(x == (k:Int))=false:=(by rw [eG];exact λh=>f h.symm);have F:(y == (k:Int))=true:=(by rw [beq_iff_eq];exact s.symm);go_wp2;go_roundw;case rel=>exact⟨k+1,by omega,by go_num,trivial⟩
    case measure=>simp [intOf];omega
  .obtain rfl:k=t:=(by omega);have p:(x == (k:Int))=false:=(by rw [eG];exact λh=>g.1 h.symm);have F:(y == (k:Int))=false:=(by rw [eG];exact λh=>g.2 h.symm);go_wp2_with fail;refine(z k (by omega)).mono ?_;rintro e w1 ⟨v,rfl,D,aq⟩;go_wp2;go_ret2;exact⟨v,rfl,aF D aq⟩
theorem cT {a:Option Addr} (h:Src w a n l) (c:0<n):∃b o,a=some (aD b o):=by
 cases a with
 |none=>have:=h.2.1 rfl;omega
 |some x=>
  obtain⟨b,o,rfl,_⟩:=h.spot c;exact⟨b,o,rfl⟩
theorem Qx (a:Option Addr) (n c:Nat) (old:List Int) (d:Option Addr) (m f:Nat) (body:List Int) (w:World) (i:Src w a n old) (bo:Src w d m body) (k:Bytes body):
  Calls prog 236 #[.slice a n c, .slice d m f] w λe w'=>∃v,e= .returned (.tuple #[v,iV (((gg old body).2:Nat):Int)])/\xy w' w.heap.size v (gg old body).1/\bW w w':=by
 have r:=i.1;have s:=bo.1;by_cases j:n=512
 .subst j;obtain⟨b,o,rfl⟩:=cT i (by omega);by_cases q:504<m
  .refine(Qs b o c old d m f w i q).mono ?_;rintro e w' ⟨rfl,iD⟩;have e:gg old body=([],7):=(by unfold gg;rw [aA (by omega),aE (by omega)]);rw [e];exact⟨_,rfl,xy.nil _ _,iD⟩
  .refine(UZ b o c old d m f body w i bo (by omega) k).mono ?_;rintro e w' ⟨g,rfl,aZ,l,iD⟩;have e:gg old body=(be (cD (old.getD 0 0) (old.getD 511 0)) body,0):=(by unfold gg;rw [aA (by omega),aA (by omega)]);rw [e];have p:(be (cD (old.getD 0 0) (old.getD 511 0)) body).length=512:=fj (by omega);have:=aZ.lst l;rw [p] at this;exact⟨_,rfl,this,iD⟩
 .refine(Qr a n c d m f w j).mono ?_;rintro e w' ⟨rfl,iD⟩;have e:gg old body=([],2):=by unfold gg;rw [aE (by omega)]
  rw [e];exact⟨_,rfl,xy.nil _ _,iD⟩
theorem qF (a:Option Addr) (n c:Nat) (old:List Int) (d:Option Addr) (m f:Nat) (body:List Int) (w:World) (g:Src w a n old) (bo:Src w d m body) (j:Bytes body) (LU:Bytes old):
  Calls prog 178 #[.slice a n c, .slice d m f] w λe w'=>∃v,e= .returned (.tuple #[v,iV (((gg old body).2:Nat):Int)])/\Own w' w.heap.size v (gg old body).1/\bW w w':=by
 have p:=g.1;have q:=bo.1;by_cases i:n=512
 .subst i;obtain⟨b,o,rfl⟩:=cT g (by omega);by_cases k:504<m
  .refine(M0 (some (aD b o)) c d m f w k).mono ?_;rintro e w' ⟨rfl,rfl⟩;have e:gg old body=([],7):=(by unfold gg;rw [aA (by omega),aE (by omega)]);rw [e];exact⟨_,rfl,Own.nil _ _,bi _ _⟩
  .refine(Qw b o c old d m f body w g bo (by omega) j LU).mono ?_;rintro e w' ⟨v,rfl,l,iD⟩;have e:gg old body=(be (cD (old.getD 0 0) (old.getD 511 0)) body,0):=(by unfold gg;rw [aA (by omega),aA (by omega)]);rw [e];exact⟨_,rfl,l,iD⟩
 .refine(MZ a n c d m f w i).mono ?_;rintro e w' ⟨rfl,rfl⟩;have e:gg old body=([],2):=by unfold gg;rw [aE (by omega)]
  rw [e];exact⟨_,rfl,Own.nil _ _,bi _ _⟩
theorem Qy (a b:Option Addr) (n m c d:Nat) (w:World) (h:n≠m):
  Calls prog 228 #[.slice a n c, .slice b m d] w λe w'=>e= .returned (.bool false)/\w'=w:=by
 have f:(((n:Int)) != (m:Int))=true:=by rw [fT];omega
 go_in;go_wp2;go_ret;exact⟨rfl,rfl⟩
theorem M1 (b o m p:Nat) (n c d:Nat) (l a:List Int) (w:World) (z:n<=140737488355328) (v:l.length=n) (MS:a.length=n) (r:∀i,i<n->w.cell? ⟨b,o+i,none⟩=some (.int .u8 (l.getD i 0))) (s:∀i,i<n->w.cell? ⟨m,p+i,none⟩=some (.int .u8 (a.getD i 0))):
  Calls prog 228 #[.slice (some (aD b o)) n c, .slice (some (aD m p)) n d] w λe w'=>e= .returned (.bool (decide (l=a)))/\bW w w':=by
 go_in;go_wp2;go_loopw [5] (λi wr=>∃k:Nat,k<=n/\i=iV k/\l.take k=a.take k/\bW w wr) (λi _=>n-(intOf i).toNat);case atStart=>exact⟨0,dU _,rfl,by simp,bi _ _⟩
 case round=>
  obtain⟨k,u,rfl,pz,f⟩:=hrel;have U3:=yh pz;by_cases bm:k<n
  .have q:=cell_later f ((yh r).out k bm);have t:=cell_later f ((yh s).out k bm);have cw:(k:Int)<(n:Int):=(by omega);by_cases g:l.getD k 0=a.getD k 0
   .have j:=yh (DB U3.o (by omega) (by omega) g);rw [g] at q;generalize a.getD k 0=x at*;go_wp2;go_quiet (fail);go_wp2;go_roundw;case rel=>exact⟨k+1,by omega,by go_num,j.o,below_drewN f _⟩
    case measure=>simp [intOf];omega
   .have dG:=Js g;have hd:Yh (decide (l=a)=false):=(by show decide (l=a)=false;simp [dG]);have LV:((l.getD k 0) != (a.getD k 0))=true:=(by rw [fT];exact g);generalize a.getD k 0=x at*;generalize l.getD k 0=y at*;go_wp2;go_quiet (fail);go_wp2;go_ret;exact⟨by rw [hd.out];rfl,below_drewN f _⟩
  .have cw:¬(k:Int)<(n:Int):=(by omega);have hd:Yh (decide (l=a)=true):=by
    have:=U3.o;rw [nh (by omega),nh (by omega)] at this;show decide (l=a)=true;simp [this]
   go_wp2;go_ret;exact⟨by rw [hd.out];rfl,f⟩
theorem Jy (a b:Option Addr) (c d:Nat) (w:World):
  Calls prog 228 #[.slice a 0 c, .slice b 0 d] w λe w'=>e= .returned (.bool true)/\w'=w:=by
 go_in;go_wp2;refine wp_loop_rounds 1 ?_;rw [rounds_succ];go_wp2;go_ret;exact⟨rfl,rfl⟩
theorem M2 (a b:Option Addr) (n m c d:Nat) (l i:List Int) (w:World) (q:n<=140737488355328) (f:Src w a n l) (g:Src w b m i):
  Calls prog 228 #[.slice a n c, .slice b m d] w λe w'=>e= .returned (.bool (decide (l=i)))/\bW w w':=by
 by_cases wP:n=m
 .subst wP;by_cases h0:n=0
  .subst h0;have o:=List.eq_nil_of_length_eq_zero f.1;have p:=List.eq_nil_of_length_eq_zero g.1;subst o p;exact(Jy a b c d w).mono (by rintro e w' ⟨rfl,rfl⟩;exact⟨rfl,bi _ _⟩)
  .cases a with
   |none=>exact absurd (f.2.1 rfl) h0
   |some x=>
    cases b with
    |none=>exact absurd (g.2.1 rfl) h0
    |some y=>
     obtain⟨j,t,rfl,r⟩:=f.spot (by omega);obtain⟨k,u,rfl,s⟩:=g.spot (by omega);exact M1 j t k u n c d l i w q f.1 g.1 r s
 .have hd:decide (l=i)=false:=by
   have:l≠i:=λe=>wP (by rw [<-f.1,<-g.1,e]);simp [this]
  rw [hd];exact(Qy a b n m c d w wP).mono (by rintro e w' ⟨rfl,rfl⟩;exact⟨rfl,bi _ _⟩)
theorem yH (h:s.length≠512):aR s=([],2):=by unfold aR;rw [aE h]
theorem kx (h:s.length=512) (a:fv s=none):aR s=([],30):=by unfold aR;rw [aA (by omega),a]
theorem pD {b:List Int} (h:s.length=512) (a:fv s=some b):aR s=(b,0):=by unfold aR;rw [aA (by omega),a]
theorem Cj (a:dM s<=504) (b:s.getD 0 0<=2) (c:be (s.getD 0 0) (dH s)=s):fv s=some (dH s):=by unfold fv;rw [aE ⟨a,b,c⟩]
theorem tA (h:¬(dM s<=504/\s.getD 0 0<=2/\be (s.getD 0 0) (dH s)=s)):fv s=none:=by unfold fv;rw [aA h]
theorem DH (h:Bytes s):((dM s:Nat):Int)=s.getD 1 0+256*s.getD 2 0:=by
 have a:=h.getD 1;have b:=h.getD 2;unfold dM;omega
theorem M3 (a:Option Addr) (n c:Nat) (w:World) (d:n≠512):
  Calls prog 198 #[.slice a n c] w λe w'=>e= .returned (.tuple #[.slice none 0 0,iV 2])/\bW w w':=by
 have b:(((n:Int)) != 512)=true:=by rw [fT];omega
 go_in;go_wp2;go_ret2;exact⟨rfl,(yh (bi w.heap.size w)).out⟩
theorem Cl (b o c:Nat) (s:List Int) (w:World) (A:Src w (some (aD b o)) 512 s) (m:Bytes s):
  Calls prog 198 #[.slice (some (aD b o)) 512 c] w λe w'=>∃v,e= .returned (.tuple #[v,iV (((aR s).2:Nat):Int)])/\Own w' w.heap.size v (aR s).1/\bW w w':=by
 have wQ:=A.1;have a:=λi hi=>by have:=A.2.2 _ rfl i hi;rwa [aK] at this
 have l:=a 0 (by omega);rw [Nat.add_zero] at l;have L:=a 1 (by omega);have M:=a 2 (by omega);have Di:bW w w:=bi _ w;have J:=DH m;have u:=m.getD 0;have y:=m.getD 1;have z:=m.getD 2;obtain⟨p,rl⟩:=bQ (s.getD 0 0);obtain⟨q,jA⟩:=bQ (s.getD 1 0);obtain⟨r,l8⟩:=bQ (s.getD 2 0);obtain⟨N,I⟩:=bQ (dM s);rw [<-jA,<-l8,<-I] at J;rw [<-rl] at l u;rw [<-jA] at L y;rw [<-l8] at M z;obtain⟨W,X,Y,Z,h20,h21,K,C,f,D,S⟩:=LH u.1 u.2 y.1 y.2 z.1 z.2 (yh a) (yh (λj=>below_drewN Di j)) (yh rl) (yh I) (yh A);clear a rl jA l8 I A Di u y z;by_cases M4:504<N\/2<p
 .have iZ:=kx wQ (tA (λh=>by rw [<-D.o,<-f.o] at h;omega));have nS:=yh iZ;clear iZ;by_cases aq:504<N
  .have acs:504<q+256*r:=(by omega);go_in;go_wp2;go_quiet (fail);go_wp2;go_ret2;exact⟨_,by rw [nS.o];rfl,by rw [nS.o];exact Own.nil _ _,C.o _⟩
  .have acs:¬504<q+256*r:=(by omega);have aW:2<p:=(by omega);go_in;go_wp2;go_quiet (fail);go_wp2;go_ret2;exact⟨_,by rw [nS.o];rfl,by rw [nS.o];exact Own.nil _ _,C.o _⟩
 .have acs:¬504<q+256*r:=by omega
  have aW:¬2<p:=by omega
  go_in;go_wp2;go_quiet (fail);go_wp2;go_loopw [5,6] (λv i wr=>∃k:Nat,k<=N/\i=iV k/\Own wr w.heap.size v ((s.drop 7).take k)/\bW w wr) (λ_ i _=>N-(intOf i).toNat);case atStart=>exact⟨0,dU _,rfl,Own.nil _ _,C.o _⟩
  case round=>
   clear l L M;obtain⟨k,hk,rfl,az,dO⟩:=hrel;have bq:=yh az;have l9:=yh dO;have hz:=dO.size;clear az dO;have sX:(s.drop 7).length=505:=(by simp;omega);by_cases bm:k<N
   .have cw:(k:Int)<q+256*r:=(by omega);have hc:=cell_later l9.o (K.o (7+k) (by omega));have G:=jW (s.drop 7) k (by omega);have O:(s.drop 7).getD k 0=s.getD (7+k) 0:=(by simp [List.getD]);rw [O] at G;have Ci:=yh G;have jT:((s.drop 7).take k).length<=505:=(by rw [List.length_take];omega);clear G O;generalize s.getD (7+k) 0=x at*;go_wp2_with (at_builtin;refine b9 rfl _ _ rfl w.heap.size u5 _ x rfl rfl bq.o ?b1 ?b2 ?_);case b1=>omega
    case b2=>exact hz
    intro v' w' Q eC;have R:Yh (Own w' w.heap.size v' ((s.drop 7).take (k+1))):=(by rw [<-Ci.o];exact Q);have wN:=yh (l9.o.trans (eC.mono (bP _)));clear Q eC bq l9 Ci;go_wp2;go_roundw;case rel=>exact⟨k+1,by omega,by go_num,R.o,wN.o⟩
    case measure=>simp [intOf];omega
   .obtain rfl:k=N:=(by omega);have cw:¬(k:Int)<q+256*r:=(by omega);have H:(s.drop 7).take k=dH s:=(by unfold dH;rw [<-D.o]);rw [H] at bq;have kv:(dH s).length=k:=(by rw [<-H,List.length_take];omega);have ie:Bytes (dH s):=(m.drop _).take _;have E:=yh kv;obtain⟨T,F,rfl,sb,_,_⟩:=bq.o.src;rw [kv] at sb bq⊢;clear kv;have l:=cell_later l9.o (K.o 0 (by omega));rw [Nat.add_zero,<-f.o] at l;obtain⟨t,rfl⟩:∃t:Nat,p=(t:Int):=⟨p.toNat,by omega⟩;have P:=Cg t T k F (dH s) wr (by omega) sb (by omega) ie;clear H sb;go_wp2_with fail;refine P.mono ?_;rintro e w2 ⟨v2,rfl,jo,aW⟩;have jL:(be t (dH s)).length=512:=fj (by rw [E.o];omega);obtain⟨p2,U,rfl,bo,_,_⟩:=jo.src;rw [jL] at*;have eM:=l9.o.trans (aW.mono l9.o.size);have km:=M2 p2 (some (aD b o)) 512 512 U c (be t (dH s)) s w2 (by omega) bo (S.o.later eM);have dE:=yh eM;have iW:=yh (Own.later bq.o aW);clear P jo aW bo eM bq l9;by_cases d:be t (dH s)=s
    .rw [decide_eq_true d] at km;have n:=pD wQ (Cj (by rw [<-D.o];omega) (by rw [<-f.o];omega) (by rw [<-f.o];exact d));have g:=yh n;clear d n;go_wp2_with fail;refine bE km λw3 bz=>?_;obtain⟨fS,act⟩:=bL (dE.o.trans (bz.mono dE.o.size)) (Own.later iW.o bz);clear km bz;go_wp2;go_ret2;exact⟨_,by rw [g.o];rfl,by rw [g.o];exact act.o,fS.o⟩
    .rw [decide_eq_false d] at km;have n:=kx wQ (tA (λh=>d (by have:=h.2.2;rwa [<-f.o] at this)));have g:=yh n;clear d n;go_wp2_with fail;refine bE km λw3 bz=>?_;have fS:=yh (dE.o.trans (bz.mono dE.o.size));clear km bz;go_wp2;go_ret2;exact⟨_,by rw [g.o];rfl,by rw [g.o];exact Own.nil _ _,fS.o⟩
theorem qG (a:Option Addr) (n c:Nat) (s:List Int) (w:World) (f:Src w a n s) (g:Bytes s):
  Calls prog 198 #[.slice a n c] w λe w'=>∃v,e= .returned (.tuple #[v,iV (((aR s).2:Nat):Int)])/\Own w' w.heap.size v (aR s).1/\bW w w':=by
 by_cases d:n=512
 .subst d;obtain⟨b,o,rfl⟩:=cT f (by omega);exact Cl b o c s w f g
 .refine(M3 a n c w d).mono ?_;rintro e w' ⟨rfl,iD⟩;rw [yH (by rw [f.1];exact d)];exact⟨_,rfl,Own.nil _ _,iD⟩
theorem le2 {b:Int} (c:0<=a) (d:0<=b):((le [a,b]:Nat):Int)=a+256*b:=by
 simp only [le];omega
theorem Xq (h:s.length=512):(s.drop 1).take 2= [s.getD 1 0,s.getD 2 0]:=by
 match s,h with
 |a :: b :: c :: r,_=>rfl
theorem ky {b o:Nat} (h:Src w (some (aD b o)) n l) {m:Nat} (d:i+m<=n):Src w (some ⟨b,o+i,none⟩) m ((l.drop i).take m):=
   ⟨by have:=h.1;simp;omega,(λe=>by cases e),λx c j a=>by
  cases c;have:=h.2.2 _ rfl (i+j) (by omega);rw [aK] at this⊢;rw [Nat.add_assoc,this];simp [List.getD,a]⟩
theorem xz (g o:Nat) (s:List Int) (w:World) (c:Src w (some (aD g o)) 512 s) (a:Bytes s) (M4:504<dM s\/2<s.getD 0 0):
  Calls prog 239 #[.pointer (some (aD g o))] w λe w'=>e= .returned (.tuple #[.slice none 0 0, .bool false])/\w'=w:=by
 have j:=ky c (i:=1) (m:=2) (by omega);have f:=uR g (o+1) 2 2 ((s.drop 1).take 2) w ((a.drop _).take _) j.1 (by omega) (λi p=>by have:=j.2.2 _ rfl i p;rwa [aK] at this);rw [Xq c.1,le2 (a.getD 1).1 (a.getD 2).1,<-(DH a)] at f;have k:=c.2.2 _ rfl 0 (by omega);rw [aK,Nat.add_zero] at k;have d:=a.getD 0;have l:=d.1;have n:=d.2;generalize s.getD 0 0=x at*;generalize dM s=N at*;clear c j d;go_in;go_wp2_with fail;refine(mi g o 1 3 w (by omega) (by omega)).mono ?_;rintro e w' ⟨rfl,b⟩;have ez:=b.symm;subst ez;clear b;go_wp2_with fail;refine bE f λw' b=>?_;have ez:=b.symm;subst ez;clear b f;by_cases r:2<x
 .have T0:3<=x:=by omega
  go_wp2;go_ret2;exact⟨rfl,rfl⟩
 .have T0:¬3<=x:=by omega
  have q:504<(N:Int):=by omega
  go_wp2;go_ret2;exact⟨rfl,rfl⟩
theorem yI {P:Program} {a:Act} {e:Oper} {K:Act->Prop} (c:TypeId) (x:Operand) (j:e.op= .load c x)
    (b o:Nat) (m:a.eval x= .pointer (some (aD b o))) (cs:List Value) (d:TypeDesc) (f:∀w,C w->w.rangeAt b o cs)
    (k:P.underlying c=some d) (hd:d.isRow=true) (g:(P.info? c).map (·.size)=some cs.length) (i:K (a.put e.dst (.agg cs.toArray))):e.quiet P a C K:=
   ⟨_,λw l=>by
  unfold Oper.quietAt execOp;simp only [j,m,Instr.loadAt,Instr.sureAddr,Sem.run_bind,Sem.run_pure,Result.andThen_ok,run_loadVar_mid w b o c cs d (f w l) k hd g];exact⟨rfl,rfl⟩,i⟩
theorem DI {a:Act} {b:Oper} {K:Act->Prop} (x y:Operand) (T:TypeId) (f:b.op= .binOp .eql 211 x y T)
    (l m:List Int) (g:a.eval x= .agg (bs l).toArray) (i:a.eval y= .agg (bs m).toArray) (d:l.length=512) (e:m.length=512) (c:K (a.put b.dst (.bool (decide (l=m))))):b.quiet prog a C K:=
   ⟨_,λw _=>by
  unfold Oper.quietAt execOp;simp only [f,g,i];have:=Qg l m d e w x y;rw [Sem.run_bind,this];exact⟨rfl,rfl⟩,c⟩
theorem zF9 (g o:Nat) (s:List Int) (w:World) (a:Src w (some (aD g o)) 512 s) (c:Bytes s) (j:dM s<=504) (D:s.getD 0 0<=2):
  Calls prog 239 #[.pointer (some (aD g o))] w λe w'=>∃k,e= .returned (.tuple #[.slice (some (aD g k)) (dM s) (dM s), .bool (decide (be (s.getD 0 0) (dH s)=s))])/\(0<dM s->k=o+7)/\bW w w':=by
 have y:=ky a (i:=1) (m:=2) (by omega);have v:=uR g (o+1) 2 2 ((s.drop 1).take 2) w ((c.drop _).take _) y.1 (by omega) (λi A=>by have:=y.2.2 _ rfl i A;rwa [aK] at this);rw [Xq a.1,le2 (c.getD 1).1 (c.getD 2).1,<-(DH c)] at v;have u:=a.2.2 _ rfl 0 (by omega);rw [aK,Nat.add_zero] at u;have I:=c.getD 0;have Qz:∃k,Src w (some (aD g k)) (dM s) (dH s)/\(0<dM s->k=o+7)/\Calls prog 221 #[.pointer (some (aD g o)),iV 7,iV (7+(dM s:Int))] w λe w'=>e= .returned (.slice (some (aD g k)) (dM s) (dM s))/\w'=w:=by
  by_cases h0:dM s=0
  .have IU:=Qh g o 7 w (by omega);refine⟨o,⟨by rw [lE j a.1],(λe=>by cases e),λx D i A=>by omega⟩,λh=>by omega,?_⟩;rw [h0];exact IU
  .have d:=mi g o 7 (7+dM s) w (by omega) (by omega);refine⟨o+7,ky a (i:=7) (m:=dM s) (by omega),λ_=>rfl,?_⟩;have G:7+dM s-7=dM s:=(by omega);rw [G] at d;have H:((7+dM s:Nat):Int)=7+(dM s:Int):=(by omega);rw [H] at d;exact d
 obtain⟨k,C,IV,d⟩:=Qz;obtain⟨t,J⟩:∃t:Nat,s.getD 0 0=(t:Int):=⟨(s.getD 0 0).toNat,by omega⟩;have ie:Bytes (dH s):=(c.drop _).take _;rw [J] at u D⊢;have E:(∀q:pA w,Calls prog 184 #[.int .u8 (t:Int), .slice (some (aD g k)) (dM s) (dM s)] q.to λe w'=>e= .returned (.agg (bs (be t (dH s))).toArray)/\Below q.to.heap.size q.to w'):=
  λq=>oh t (some (aD g k)) (dM s) (dM s) (dH s) q.to (by omega) (C.later q.h) j ie
 have jL:(be t (dH s)).length=512:=fj (by rw [(lE j a.1)];exact j);have A6:∀w',(∃q:pA w,w'=q.to)->w'.rangeAt g o (bs s):=λw' ⟨q,e⟩=>by rw [e];exact lF (a.later q.h)
 have F:∀q:pA w,q.to.cell? (aD g o)=some (.int .u8 (t:Int)):=λq=>cell_later q.h u;obtain⟨n,p,f,r,acu⟩:=ey IV A6 jL a.1 (iY (l:=s) a.1);clear a y I C IV ie jL A6;obtain⟨R,z⟩:=bQ (be t (dH s));rw [<-z] at E f⊢;clear z;generalize dM s=N at*;have tB:¬3<=(t:Int):=by omega
 go_in;go_wp2_with fail;refine(mi g o 1 3 w (by omega) (by omega)).mono ?_;rintro e w' ⟨rfl,b⟩;have ez:=b.symm;subst ez;clear b;go_wp2_with fail;refine bE v λw' b=>?_;have ez:=b.symm;subst ez;clear b v;go_wp2_with fail;refine bE d λw' b=>?_;have ez:=b.symm;subst ez;clear b d;go_wp2_with fail;have dG:=pA.some w;refine wJ (by kernel_rfl) (by kernel_rfl) ?_
 repeat (first|go_big_quiet_skip|(go_big_quiet_want;go_big_quiet_op;first|go_big_quiet_on|(apply Exists.intro;refine⟨λq=>?_,?_⟩;exact Calls.Qa (E q);go_big_quiet_on)))
 go_big_quiet_want
 refine yI 211 _ rfl g o rfl (bs s) _ p underlying211 rfl acu ?_;simp only [Act.put,List.setIfInBounds_toArray,List.set_cons_succ,List.set_cons_zero]
 go_big_quiet_on
 go_big_quiet_want
 refine DI _ _ _ rfl R s rfl rfl f r ?_;simp only [Act.put,List.setIfInBounds_toArray,List.set_cons_succ,List.set_cons_zero]
 go_big_quiet_on
 repeat (go_big_quiet_want;go_big_quiet_op;go_big_quiet_on)
 refine wpQuiet_nil ?_;rintro _ ⟨q,rfl⟩;go_wp2;go_ret2;exact⟨k,rfl,n,q.h⟩
theorem M5 (a:Option Addr) (n c:Nat) (w:World) (b:n≠512):
  Calls prog 225 #[.slice a n c] w λe w'=>e= .returned (.tuple #[.slice none 0 0,iV 2])/\bW w w':=by
 obtain⟨g,d,aU,dI⟩:=cM jc (pC a n c w b) yG yF;generalize bh=Z at*;have bR:Z.all Value.oneCell'=true:=all_oneCell_toArray dI;go_in;go_wp2_with fail;refine bE d λw1 aq=>?_;have bN:(w1.alloc (.cells Z 211)).heap[w1.heap.size]? =some (.cells Z 211 (0,0)):=heap_alloc_new _ _;have dZ:(w1.alloc (.cells Z 211)).there w1.heap.size 0 Z.toList.length:=cE bN (by simp);have bK:bW w (w1.alloc (.cells Z 211)):=aq.alloc aq.size _;have ef:=aq.size;have A8:=(bK.trans ((aa.setCells (F:=λj=>j=w1.heap.size) rfl Z.toList 0 _).below (λj f=>by omega) bK.size));go_wp2_with (refine wpList_store_mid rfl 211 _ _ rfl w1.heap.size 0 Z rfl rfl ?h1 ?h2 bR ?_);case h1=>simpa using dZ
 case h2=>simpa using aU
 go_ret2;exact⟨rfl,A8⟩
theorem M6 (b o c:Nat) (s:List Int) (w:World) (f:Src w (some (aD b o)) 512 s) (U4:Bytes s):
  Calls prog 225 #[.slice (some (aD b o)) 512 c] w λe w'=>∃v,e= .returned (.tuple #[v,iV (((aR s).2:Nat):Int)])/\xy w' w.heap.size v (aR s).1/\bW w w':=by
 obtain⟨D,ed,aU,dI⟩:=cM jc (mj b o c s w f) (iY (l:=s) f.1) (cB s);have jT:(bs s).length=512:=by rw [bs,List.length_map,f.1]
 have mL:=f.1;have bR:=all_oneCell_toArray dI;obtain⟨F,p⟩:=bQ (bs s);rw [<-p] at ed aU dI jT bR;have z:=yh p;clear dI f p;go_in;go_wp2_with fail;refine bE ed λw1 aq=>?_;have bN:(w1.alloc (.cells bh 211)).heap[w1.heap.size]? =some (.cells bh 211 (0,0)):=heap_alloc_new _ _;have dZ:=cE bN cI;rw [<-jT] at dZ;have bK:bW w (w1.alloc (.cells bh 211)):=aq.alloc aq.size _;have ef:=aq.size;have eM:=bK.trans ((aa.setCells (F:=λj=>j=w1.heap.size) rfl F 0 _).below (λj C=>by omega) bK.size);have aZ:=eE (l:=s) bN (by rw [cI,mL]);rw [<-z.o] at aZ;obtain⟨q,dw⟩:=bQ ((w1.alloc (.cells bh 211)).setCells w1.heap.size 0 F);rw [<-dw] at aZ eM;have fJ:Src q (some (aD w1.heap.size 0)) 512 s:=by
  have:=aZ.src (o:=0) (n:=512) (by omega);rwa [List.drop_zero,nh (by omega)] at this
 obtain⟨dE,QA⟩:=bL eM fJ;clear ed bN bK aq aZ eM fJ;go_wp2_with (refine wpList_store_mid rfl 211 _ _ rfl w1.heap.size 0 F.toArray rfl rfl ?h1 ?h2 bR ?_);case h1=>simpa using dZ
 case h2=>simpa using aU
 rw [<-dw];clear dw dZ aU bR;by_cases M4:504<dM s\/2<s.getD 0 0
 .have iZ:=kx mL (tA (λh=>by omega));have nS:=yh iZ;refine(xz w1.heap.size 0 s q QA.o U4 M4).mono ?_;rintro e w' ⟨rfl,t⟩;have ez:=t.symm;subst ez;clear t iZ M4;go_wp2;go_ret2;exact⟨_,by rw [nS.o];rfl,by rw [nS.o];exact xy.nil _ _,dE.o⟩
 .refine(zF9 w1.heap.size 0 s q QA.o U4 (by omega) (by omega)).mono ?_;rintro e y ⟨k,rfl,r,bz⟩;have sb:Src y (some (aD w1.heap.size k)) (dM s) (dH s):=by
   by_cases h0:dM s=0
   .exact⟨lE (by omega) mL,(λe=>by cases e),λx u i A=>by omega⟩
   .rw [r (by omega)];exact ky (QA.o.later bz) (i:=7) (m:=dM s) (by omega)
  have fS:=yh (dE.o.trans (bz.mono dE.o.size));have kv:=lE (s:=s) (by omega) mL;have iG:xy y w.heap.size (.slice (some (aD w1.heap.size k)) (dM s) (dM s)) (dH s):=⟨some (aD w1.heap.size k),dM s,by rw [kv],by rw [kv];exact sb,by omega,λx u=>by cases u;exact ef⟩;have ahO:=yh iG;clear sb iG r bz kv;by_cases a:be (s.getD 0 0) (dH s)=s
  .have g:=pD mL (Cj (by omega) (by omega) a);have d:=yh g;rw [decide_eq_true a];clear a g;go_wp2;go_ret2;exact⟨_,by rw [d.o];rfl,by rw [d.o];exact ahO.o,fS.o⟩
  .have g:=kx mL (tA (λh=>a h.2.2));have d:=yh g;rw [decide_eq_false a];clear a g;go_wp2;go_ret2;exact⟨_,by rw [d.o];rfl,by rw [d.o];exact xy.nil _ _,fS.o⟩
theorem Cn (a:Option Addr) (n c:Nat) (s:List Int) (w:World) (f:Src w a n s) (g:Bytes s):
  Calls prog 225 #[.slice a n c] w λe w'=>∃v,e= .returned (.tuple #[v,iV (((aR s).2:Nat):Int)])/\xy w' w.heap.size v (aR s).1/\bW w w':=by
 by_cases d:n=512
 .subst d;obtain⟨b,o,rfl⟩:=cT f (by omega);exact M6 b o c s w f g
 .refine(M5 a n c w d).mono ?_;rintro e w' ⟨rfl,iD⟩;rw [yH (by rw [f.1];exact d)];exact⟨_,rfl,xy.nil _ _,iD⟩
theorem yJ {old body:List Int} (a:old.length=512) (b:body.length<=504):gg old body=(be (cD (old.getD 0 0) (old.getD 511 0)) body,0):=by
 unfold gg;rw [aA (by omega),aA (by omega)]
theorem Own.full {B:Nat} (h:Own w B v l) (h0:0<l.length):∃g c,v= .slice (some (aD g 0)) l.length c/\B<=g/\ay w 5 g c (bs l):=h.U1 h0
def bO (l:List Int):List Int:=if l.length=512 then l else zs 512
theorem aS (l:List Int):(bO l).length=512:=by unfold bO;split;assumption;exact bB 512
theorem gC (h:l.length=512):bO l=l:=by unfold bO;rw [aE h]
theorem tC (a:Option Addr) (n c:Nat) (l:List Int) (w:World) (d:Src w a n l):
  Calls prog 218 #[.slice a n c] w λe w'=>e= .returned (.tuple #[.agg (bs (bO l)).toArray, .bool (decide (n=512))])/\bW w w':=by
 by_cases f:n=512
 .subst f;cases a with
  |none=>have:=d.2.1 rfl;omega
  |some x=>
   obtain⟨b,o,rfl,_⟩:=d.spot (by omega);rw [gC d.1];exact mj b o c l w d
 .have e:bO l=zs 512:=by unfold bO;rw [aA (by rw [d.1];exact f)]
  rw [e,decide_eq_false f];exact pC a n c w f
def cO:Array Value:=(bs (zs 1024)).toArray
theorem FT:(prog.info? 213).map (λi=>(i.zero,i.size))=some (some (.agg cO),1024):=by kernel_rfl
theorem kz (w:World):(zeroValue 213).run prog w= .ok (.agg cO) w:=by
 obtain⟨i,b,a⟩:=Option.map_eq_some_iff.1 FT;simp only [Prod.mk.injEq] at a;simp [zeroValue,typeInfo,b,a.1]
theorem pE:(prog.info? 213).map (·.size)=some 1024:=by
 obtain⟨i,b,a⟩:=Option.map_eq_some_iff.1 FT;simp only [Prod.mk.injEq] at a;rw [b,<-a.2];rfl
theorem cX:cO.size=1024:=by unfold cO;simp only [List.size_toArray,bs,List.length_map,bB]
theorem Dd:∀(c:List Value) (k b:Nat) (a:Array Value),b+k+c.length<=a.size->
    ((c.zipIdx k).foldl (λcs (x:Value×Nat)=>cs.setIfInBounds (b+x.2) x.1) a).toList=a.toList.take (b+k) ++ c ++ a.toList.drop (b+k+c.length)
 | [],k,b,a,h=>by simp
 |v :: r,k,b,a,h=>by
  have d:b+k<a.toList.length:=by simp at h⊢;omega
  rw [List.zipIdx_cons,List.foldl_cons,Dd r (k+1) b _ (by simp at h⊢;omega)];simp only [Array.toList_setIfInBounds];rw [show b+(k+1)=b+k+1 by omega,List.take_set,List.drop_set];rw [aE (by omega),List.take_succ_eq_append_getElem d,List.set_append_right _ _ (by simp;omega)];have:(b+k)-(a.toList.take (b+k)).length=0:=by simp;omega
  rw [this,List.set_cons_zero];simp only [List.length_cons,List.append_assoc,List.cons_append,List.nil_append];congr 4;omega
theorem AT (F a:Array Value) (b:Nat) (h:b+F.size<=a.size):
    (F.zipIdx.foldl (λcs (x:Value×Nat)=>cs.setIfInBounds (b+x.2) x.1) a).toList=a.toList.take b ++ F.toList ++ a.toList.drop (b+F.size):=by
 rw [<-Array.foldl_toList,Array.toList_zipIdx];have:=Dd F.toList 0 b a (by simpa using h);simpa using this
theorem Jz (F G:Array Value) (a:F.size=512) (d:G.size=512) (w:World):
    (Instr.build 213 #[(0, .agg F),(1, .agg G)]).run prog w= .ok (.agg (F ++ G)) w:=by
 obtain⟨i,l,k⟩:=Option.map_eq_some_iff.1 DF;have m:=cX;have c:=AT F cO (0*512) (by omega);have s1:(F.zipIdx.foldl (λcs (x:Value×Nat)=>cs.setIfInBounds (0*512+x.2) x.1) cO).size=1024:=by
  rw [<-Array.length_toList,c];simp;omega
 have j:=AT G (F.zipIdx.foldl (λcs (x:Value×Nat)=>cs.setIfInBounds (0*512+x.2) x.1) cO) (1*512) (by omega);have b:Instr.fill (λi=>some (i*512,512)) cO [(0, .agg F),(1, .agg G)]=some (F ++ G):=by
  have e:(Value.agg F).cells=F:=rfl;have f:(Value.agg G).cells=G:=rfl;simp only [Instr.fill,e,f,a,d,m];rw [aA (by simp),aA (by simp only [ne_eq,not_true,decide_false,Bool.false_or,decide_eq_true_eq];omega)];refine congrArg some ?_;apply Array.ext';rw [j,c];have rB:F.toList.length=512:=by simpa using a
  simp only [Nat.zero_mul,List.take_zero,List.nil_append,Nat.zero_add,Nat.one_mul,a,d];rw [List.take_left' rB,List.drop_eq_nil_of_le (by simp;omega)];simp
 have g:(Value.agg cO).cells=cO:=rfl;simp only [Instr.build,Sem.run_bind,kz,Result.andThen_ok,run_underlying underlying213,g];have ef:(sizeOf 211).run prog w= .ok 512 w:=by simp [sizeOf,typeInfo,l,k]
 rw [ef,Result.andThen_ok,b];rfl
theorem oj {F:List Value} (h:F.length=512):(prog.info? 211).map (·.size)=some F.length:=by rw [DF,h]
theorem mm {b:Array Oper} {rest:List Oper} {c:Oper} {a:Act} {Q:Exit->Act->World->Prop} (FQ:c.guard=none) (x y:Operand) (k:c.op= .build 213 #[(0,x),(1,y)])
    (F G P:Array Value) (l:a.eval x= .agg F) (m:a.eval y= .agg G) (d:F.size=512) (f:G.size=512) (j:P=F ++ G)
    (h:wpList prog b Q rest (a.put c.dst (.agg P)) w):wpList prog b Q (c :: rest) a w:=
 wpList_plain FQ λK g=>by
  subst j;unfold Oper.wp execOp;simp only [k];have e:(#[(0,x),(1,y)]:Array (Nat×Operand)).map (λ(i,o)=>(i,a.eval o))= #[(0, .agg F),(1, .agg G)]:=by simp [l,m]
  rw [e,Sem.run_bind,(Jz F G d f w)];exact g _ _ h
theorem JA (C E:Bool) (F G:List Value) (q:F.length=512) (r:G.length=512) (g:∀v∈F,v.oneCell'=true) (i:∀v∈G,v.oneCell'=true) (x y:Value) (w:World)
    (A2:∀w':World,bW w w'->Calls prog 218 #[x] w' λe Bh=>e= .returned (.tuple #[.agg F.toArray, .bool C])/\bW w' Bh)
    (B7:∀w':World,bW w w'->Calls prog 218 #[y] w' λe Bh=>e= .returned (.tuple #[.agg G.toArray, .bool E])/\bW w' Bh):
  Calls prog 181 #[x,y] w λe w'=>e= .returned (.tuple #[.agg (F.toArray ++ G.toArray), .bool (C && E)])/\bW w w':=by
 cases C
 .have H:=jc;have l:F.toArray.size=512:=by simpa using q
  have m:G.toArray.size=512:=by simpa using r
  have sf:=oj q;have sh:=oj r;have yK:(prog.info? 213).map (·.size)=some (F.toArray ++ G.toArray).size:=by rw [pE];simp;omega
  have QB:=all_oneCell_toArray g;have QC:=all_oneCell_toArray i;have FU:(F.toArray ++ G.toArray).all (·.oneCell')=true:=by
   have:=all_oneCell_toArray (cs:=F ++ G) (λv n=>(List.mem_append.1 n).elim (g v) (i v));simpa using this
  have bK:bW w (w.alloc (.cells cO 213)):=(bi _ w).alloc (bP _) _;have u:=A2 _ bK;have cN:=yh bK;have FV:(w.alloc (.cells cO 213)).heap[w.heap.size]? =some (.cells cO 213 (0,0)):=heap_alloc_new _ _;obtain⟨FW,c⟩:=bL FV B7;have bN:w.heap.size<(w.alloc (.cells cO 213)).heap.size:=by simp
  clear bK A2 B7 FV;go_in;go_wp2_with fail;refine bE u λw1 aq=>?_;have eM:=cN.o.trans (aq.mono cN.o.size);have kB:=(aq.block w.heap.size bN).trans FW.o;have dr:=eM.size;have rY:=iP bN aq.size;have iQ:(w1.alloc (.cells bh 211)).heap[w1.heap.size]? =some (.cells bh 211 (0,0)):=heap_alloc_new _ _;have dZ:=cE iQ cI;rw [<-q] at dZ;have jK:bW w (w1.alloc (.cells bh 211)):=eM.alloc dr _;have sW:=jK.trans ((aa.setCells (F:=λj=>j=w1.heap.size) rfl F 0 _).below (λj t=>by omega) jK.size);have YX:=World.rangeAt_setCells_same (w1.alloc (.cells bh 211)) w1.heap.size 0 F dZ;have yL:((w1.alloc (.cells bh 211)).setCells w1.heap.size 0 F).heap[w.heap.size]? =some (.cells cO 213 (0,0)):=
     ((aa.setCells (F:=λj=>j=w1.heap.size) rfl F 0 _).block w.heap.size (by simp;omega) (by omega)).trans ((heap_alloc_old w1 _ rY).trans kB)
  have ju:((w1.alloc (.cells bh 211)).setCells w1.heap.size 0 F).heap.size=w1.heap.size+1:=by rw [mK];simp
  obtain⟨A,dw⟩:=bQ ((w1.alloc (.cells bh 211)).setCells w1.heap.size 0 F);rw [<-dw] at sW YX yL ju;obtain⟨z,eV,jB,d,FX⟩:=ey (c.o A sW) (yh dw) (yh sW) (yh YX) (yh yL);clear u aq eM kB iQ jK sW YX yL dw c cN FW;go_wp2_with (refine wpList_store_mid rfl 211 _ _ rfl w1.heap.size 0 F.toArray rfl rfl ?h1 ?h2 QB ?_);case h1=>simpa using dZ
  case h2=>simpa using sf
  rw [<-eV.o];refine bE z λb bz=>?_;have Ju:=jB.o.trans (bz.mono jB.o.size);have vP:=(bz.block w.heap.size (by omega)).trans FX.o;have kO:=Ju.size;have Dj:=bz.size;have xA:(b.alloc (.cells bh 211)).heap[b.heap.size]? =some (.cells bh 211 (0,0)):=heap_alloc_new _ _;have JB:=cE xA cI;rw [<-r] at JB;have A8:bW w (b.alloc (.cells bh 211)):=Ju.alloc kO _;have Bq:=A8.trans ((aa.setCells (F:=λj=>j=b.heap.size) rfl G 0 _).below (λj t=>by omega) A8.size);have YY:=World.rangeAt_setCells_same (b.alloc (.cells bh 211)) b.heap.size 0 G JB;have JC:((b.alloc (.cells bh 211)).setCells b.heap.size 0 G).rangeAt w1.heap.size 0 F:=by
   intro j v n;rw [World.cell?_of_block (w:=A) (a:=⟨w1.heap.size,0+j,none⟩)]
   .exact(d.o j v n)
   .exact((aa.setCells (F:=λj=>j=b.heap.size) rfl G 0 _).block w1.heap.size (by simp;omega) (by omega)).trans ((heap_alloc_old b _ (show w1.heap.size<b.heap.size by omega)).trans (bz.block w1.heap.size (by omega)))
  have rA:((b.alloc (.cells bh 211)).setCells b.heap.size 0 G).heap[w.heap.size]? =some (.cells cO 213 (0,0)):=
     ((aa.setCells (F:=λj=>j=b.heap.size) rfl G 0 _).block w.heap.size (by simp;omega) (by omega)).trans ((heap_alloc_old b _ (show w.heap.size<b.heap.size by omega)).trans vP)
  obtain⟨p,tD⟩:=bQ ((b.alloc (.cells bh 211)).setCells b.heap.size 0 G);rw [<-tD] at Bq YY JC rA;have JD:p.there w.heap.size 0 (F.toArray ++ G.toArray).toList.length:=cE rA (by rw [cX];simp;omega);have f:=yh (World.rangeAt_setCells_same p w.heap.size 0 (F.toArray ++ G.toArray).toList JD);obtain⟨M7,IW⟩:=bL (Bq.trans ((aa.setCells (F:=λj=>j=w.heap.size) rfl (F.toArray ++ G.toArray).toList 0 p).below (λj t=>by omega) Bq.size)) tD;have tE:(prog.info? 213).map (·.size)=some (F.toArray ++ G.toArray).toList.length:=by rw [pE];simp;omega
  obtain⟨P,k⟩:=bQ (F.toArray ++ G.toArray);rw [<-k] at yK FU JD f M7 tE;have s:=yh k;clear z bz Ju vP xA A8 Bq rA tD k jB d FX eV;go_wp2_with (first|refine mm rfl _ _ rfl F.toArray G.toArray P rfl rfl l m s.o ?_|refine wpList_store_mid rfl 211 _ _ rfl b.heap.size 0 G.toArray rfl rfl ?h1 ?h2 QC ?_|(rw [<-IW.o];first|refine wpList_load_mid rfl 211 _ rfl w1.heap.size 0 rfl F _ JC underlying211 rfl sf ?_|refine wpList_load_mid rfl 211 _ rfl b.heap.size 0 rfl G _ YY underlying211 rfl sh ?_)|refine wpList_load_mid rfl 211 _ rfl w1.heap.size 0 rfl F _ JC underlying211 rfl sf ?_|refine wpList_load_mid rfl 211 _ rfl b.heap.size 0 rfl G _ YY underlying211 rfl sh ?_|refine wpList_store_mid rfl 213 _ _ rfl w.heap.size 0 P rfl rfl ?h3 ?h4 FU ?_);case h1=>simpa using JB
  case h2=>simpa using sh
  case h3=>simpa using JD
  case h4=>simpa using yK
  have D:P.toList.toArray=(F ++ G).toArray:=by rw [s.o];simp
  exact bodyPost_ret (results_cell_tmp (P:=prog) rfl _ _ w.heap.size P.toList _ _ rfl rfl f.out underlying213 rfl tE) rfl ⟨by rw [D];rfl,M7.out⟩
 .have H:=jc;have l:F.toArray.size=512:=by simpa using q
  have m:G.toArray.size=512:=by simpa using r
  have sf:=oj q;have sh:=oj r;have yK:(prog.info? 213).map (·.size)=some (F.toArray ++ G.toArray).size:=by rw [pE];simp;omega
  have QB:=all_oneCell_toArray g;have QC:=all_oneCell_toArray i;have FU:(F.toArray ++ G.toArray).all (·.oneCell')=true:=by
   have:=all_oneCell_toArray (cs:=F ++ G) (λv n=>(List.mem_append.1 n).elim (g v) (i v));simpa using this
  have bK:bW w (w.alloc (.cells cO 213)):=(bi _ w).alloc (bP _) _;have u:=A2 _ bK;have cN:=yh bK;have FV:(w.alloc (.cells cO 213)).heap[w.heap.size]? =some (.cells cO 213 (0,0)):=heap_alloc_new _ _;obtain⟨FW,c⟩:=bL FV B7;have bN:w.heap.size<(w.alloc (.cells cO 213)).heap.size:=by simp
  clear bK A2 B7 FV;go_in;go_wp2_with fail;refine bE u λw1 aq=>?_;have eM:=cN.o.trans (aq.mono cN.o.size);have kB:=(aq.block w.heap.size bN).trans FW.o;have dr:=eM.size;have rY:=iP bN aq.size;have iQ:(w1.alloc (.cells bh 211)).heap[w1.heap.size]? =some (.cells bh 211 (0,0)):=heap_alloc_new _ _;have dZ:=cE iQ cI;rw [<-q] at dZ;have jK:bW w (w1.alloc (.cells bh 211)):=eM.alloc dr _;have sW:=jK.trans ((aa.setCells (F:=λj=>j=w1.heap.size) rfl F 0 _).below (λj t=>by omega) jK.size);have YX:=World.rangeAt_setCells_same (w1.alloc (.cells bh 211)) w1.heap.size 0 F dZ;have yL:((w1.alloc (.cells bh 211)).setCells w1.heap.size 0 F).heap[w.heap.size]? =some (.cells cO 213 (0,0)):=
     ((aa.setCells (F:=λj=>j=w1.heap.size) rfl F 0 _).block w.heap.size (by simp;omega) (by omega)).trans ((heap_alloc_old w1 _ rY).trans kB)
  have ju:((w1.alloc (.cells bh 211)).setCells w1.heap.size 0 F).heap.size=w1.heap.size+1:=by rw [mK];simp
  obtain⟨A,dw⟩:=bQ ((w1.alloc (.cells bh 211)).setCells w1.heap.size 0 F);rw [<-dw] at sW YX yL ju;obtain⟨z,eV,jB,d,FX⟩:=ey (c.o A sW) (yh dw) (yh sW) (yh YX) (yh yL);clear u aq eM kB iQ jK sW YX yL dw c cN FW;go_wp2_with (refine wpList_store_mid rfl 211 _ _ rfl w1.heap.size 0 F.toArray rfl rfl ?h1 ?h2 QB ?_);case h1=>simpa using dZ
  case h2=>simpa using sf
  rw [<-eV.o];refine bE z λb bz=>?_;have Ju:=jB.o.trans (bz.mono jB.o.size);have vP:=(bz.block w.heap.size (by omega)).trans FX.o;have kO:=Ju.size;have Dj:=bz.size;have xA:(b.alloc (.cells bh 211)).heap[b.heap.size]? =some (.cells bh 211 (0,0)):=heap_alloc_new _ _;have JB:=cE xA cI;rw [<-r] at JB;have A8:bW w (b.alloc (.cells bh 211)):=Ju.alloc kO _;have Bq:=A8.trans ((aa.setCells (F:=λj=>j=b.heap.size) rfl G 0 _).below (λj t=>by omega) A8.size);have YY:=World.rangeAt_setCells_same (b.alloc (.cells bh 211)) b.heap.size 0 G JB;have JC:((b.alloc (.cells bh 211)).setCells b.heap.size 0 G).rangeAt w1.heap.size 0 F:=by
   intro j v n;rw [World.cell?_of_block (w:=A) (a:=⟨w1.heap.size,0+j,none⟩)]
   .exact(d.o j v n)
   .exact((aa.setCells (F:=λj=>j=b.heap.size) rfl G 0 _).block w1.heap.size (by simp;omega) (by omega)).trans ((heap_alloc_old b _ (show w1.heap.size<b.heap.size by omega)).trans (bz.block w1.heap.size (by omega)))
  have rA:((b.alloc (.cells bh 211)).setCells b.heap.size 0 G).heap[w.heap.size]? =some (.cells cO 213 (0,0)):=
     ((aa.setCells (F:=λj=>j=b.heap.size) rfl G 0 _).block w.heap.size (by simp;omega) (by omega)).trans ((heap_alloc_old b _ (show w.heap.size<b.heap.size by omega)).trans vP)
  obtain⟨p,tD⟩:=bQ ((b.alloc (.cells bh 211)).setCells b.heap.size 0 G);rw [<-tD] at Bq YY JC rA;have JD:p.there w.heap.size 0 (F.toArray ++ G.toArray).toList.length:=cE rA (by rw [cX];simp;omega);have f:=yh (World.rangeAt_setCells_same p w.heap.size 0 (F.toArray ++ G.toArray).toList JD);obtain⟨M7,IW⟩:=bL (Bq.trans ((aa.setCells (F:=λj=>j=w.heap.size) rfl (F.toArray ++ G.toArray).toList 0 p).below (λj t=>by omega) Bq.size)) tD;have tE:(prog.info? 213).map (·.size)=some (F.toArray ++ G.toArray).toList.length:=by rw [pE];simp;omega
  obtain⟨P,k⟩:=bQ (F.toArray ++ G.toArray);rw [<-k] at yK FU JD f M7 tE;have s:=yh k;clear z bz Ju vP xA A8 Bq rA tD k jB d FX eV;go_wp2_with (first|refine mm rfl _ _ rfl F.toArray G.toArray P rfl rfl l m s.o ?_|refine wpList_store_mid rfl 211 _ _ rfl b.heap.size 0 G.toArray rfl rfl ?h1 ?h2 QC ?_|(rw [<-IW.o];first|refine wpList_load_mid rfl 211 _ rfl w1.heap.size 0 rfl F _ JC underlying211 rfl sf ?_|refine wpList_load_mid rfl 211 _ rfl b.heap.size 0 rfl G _ YY underlying211 rfl sh ?_)|refine wpList_load_mid rfl 211 _ rfl w1.heap.size 0 rfl F _ JC underlying211 rfl sf ?_|refine wpList_load_mid rfl 211 _ rfl b.heap.size 0 rfl G _ YY underlying211 rfl sh ?_|refine wpList_store_mid rfl 213 _ _ rfl w.heap.size 0 P rfl rfl ?h3 ?h4 FU ?_);case h1=>simpa using JB
  case h2=>simpa using sh
  case h3=>simpa using JD
  case h4=>simpa using yK
  have D:P.toList.toArray=(F ++ G).toArray:=by rw [s.o];simp
  exact bodyPost_ret (results_cell_tmp (P:=prog) rfl _ _ w.heap.size P.toList _ _ rfl rfl f.out underlying213 rfl tE) rfl ⟨by rw [D];rfl,M7.out⟩
theorem jl (a:Option Addr) (n c:Nat) (l:List Int) (b:Option Addr) (m d:Nat) (r:List Int) (w:World) (g:Src w a n l) (bo:Src w b m r):
  Calls prog 181 #[.slice a n c, .slice b m d] w λe w'=>e= .returned (.tuple #[.agg (bs (bO l ++ bO r)).toArray, .bool (decide (n=512) && decide (m=512))])/\bW w w':=by
 have h:=JA (decide (n=512)) (decide (m=512)) (bs (bO l)) (bs (bO r)) (by rw [bs,List.length_map,aS]) (by rw [bs,List.length_map,aS]) (cB _) (cB _) (.slice a n c) (.slice b m d) w
    (λw' f=>tC a n c l w' (g.later f)) (λw' f=>tC b m d r w' (bo.later f))
 rw [List.append_toArray,<-iE] at h;exact h
def ip (w:World) (g:Nat) (v:Value) (l:List Int):Prop:=∃a c,v= .slice a l.length c/\Src w a l.length l/\l.length<=c/\∀x,a=some x->x.block=g
theorem ip.nil (w:World) (g:Nat):ip w g (.slice none 0 0) []:=⟨none,0,rfl,⟨rfl,λ_=>rfl,λx a=>by cases a⟩,bP _,λx a=>by cases a⟩
theorem ip.later {w':World} (h:ip w g v l) (b:bW w w'):ip w' g v l:=by
 obtain⟨a,c,rfl,e,d,f⟩:=h;exact⟨a,c,rfl,e.later b,d,f⟩
theorem ip.lst {B:Nat} (h:ip w g v l) (d:B<=g):xy w B v l:=by
 obtain⟨a,c,rfl,f,b,i⟩:=h;exact⟨a,c,rfl,f,b,λx e=>by rw [i x e];exact d⟩
theorem fg (h:fv s=none\/∃b,fv s=some b/\(b.length<8\/9223372036854775808<=le (b.take 8))):sanchor s=(0, []):=by
 rcases h with h|⟨b,h,a⟩
 .simp [sanchor,h]
 .simp only [sanchor,h];rw [aA (by omega)]
theorem tF {b:List Int} (h:fv s=some b) (a:8<=b.length) (c:le (b.take 8)<9223372036854775808):sanchor s=(le (b.take 8),b.drop 8):=by
 simp only [sanchor,h];rw [aE ⟨a,c⟩]
theorem yM (g o:Nat) (s:List Int) (w:World) (c:Src w (some (aD g o)) 512 s) (p:Bytes s):
  Calls prog 219 #[.pointer (some (aD g o))] w λe w'=>∃v,e= .returned (.tuple #[iV (((sanchor s).1:Nat):Int),v])/\ip w' g v (sanchor s).2/\bW w w':=by
 have mL:=c.1;go_in;go_wp2_with fail;by_cases M4:504<dM s\/2<s.getD 0 0
 .have iZ:sanchor s=(0, []):=fg (.inl (by unfold fv;rw [aA (λh=>by omega)]));have nS:=yh iZ;have b:=xz g o s w c p M4;clear iZ c;refine bE b λw' d=>?_;have ez:=d.symm;subst ez;clear d b;go_wp2;go_ret2;exact⟨_,by rw [nS.o];rfl,by rw [nS.o];exact ip.nil _ _,bi _ _⟩
 .have b:=zF9 g o s w c p (by omega) (by omega);have kv:=lE (s:=s) (by omega) mL;have ie:Bytes (dH s):=(p.drop _).take _;by_cases a:be (s.getD 0 0) (dH s)=s
  .have l7:fv s=some (dH s):=(by unfold fv;rw [aE ⟨by omega,by omega,a⟩]);rw [decide_eq_true a] at b;refine b.mono ?_;by_cases A:dM s<8
   .have iZ:=fg (.inr ⟨_,l7, .inl (by omega)⟩);have nS:=yh iZ;have l:(dM s:Int)<8:=(by omega);clear iZ c l7 a ie;generalize dM s=N at*;rintro e w1 ⟨k,rfl,_,aq⟩;have cN:=yh aq;clear aq b;go_wp2;go_ret2;exact⟨_,by rw [nS.o];rfl,by rw [nS.o];exact ip.nil _ _,cN.o⟩
   .have l:¬(dM s:Int)<8:=(by omega);have sb:∀w1:World,bW w w1->Src w1 (some ⟨g,o+7,none⟩) (dM s) (dH s):=λw1 h=>ky (c.later h) (i:=7) (m:=dM s) (by omega);have M8:((dH s).take 8).length=8:=(by rw [List.length_take];omega);have YZ:=FO (ie.take 8) (by omega);have pz:=λw1 h=>by
     have r:=ky (sb w1 h) (i:=0) (m:=8) (by omega);rw [List.drop_zero] at r;exact uR g (o+7) 8 8 ((dH s).take 8) w1 (ie.take 8) M8 (by omega) (λi q=>by have:=r.2.2 _ rfl i q;rwa [aK,Nat.add_zero] at this)
    have U3:=yh pz;clear pz;obtain⟨M,f⟩:=bQ (le ((dH s).take 8));rw [<-f] at YZ U3;rintro e w1 ⟨k,rfl,j,aq⟩;have xq:=j (by omega);subst xq;have cN:=yh aq;have t:=U3.o w1 aq;clear aq b U3 j;go_wp2_with fail;refine bE t λw' d=>?_;have ez:=d.symm;subst ez;clear d t;by_cases aT:9223372036854775807<M
    .have iZ:=fg (.inr ⟨_,l7, .inr (by omega)⟩);have nS:=yh iZ;have acy:9223372036854775807<(M:Int):=(by omega);clear iZ c l7 a ie f;generalize dM s=N at*;have y:(8:Int)<=(N:Int):=(by omega);go_wp2;go_ret2;exact⟨_,by rw [nS.o];rfl,by rw [nS.o];exact ip.nil _ _,cN.o⟩
    .have kC:sanchor s=(M,(dH s).drop 8):=(by rw [f];exact tF l7 (by omega) (by omega));have JE:=yh kC;have acy:¬9223372036854775807<(M:Int):=(by omega);have sX:((dH s).drop 8).length=dM s-8:=(by simp;omega);have jz:∀(w1:World) (k:Nat),bW w w1->(8<dM s->k=o+7+8)->ip w1 g (.slice (some (aD g k)) (dM s-8) (dM s-8)) ((dH s).drop 8):=by
      intro w1 k h j;refine⟨some (aD g k),dM s-8,by rw [sX],?_,by omega,λx u=>by cases u;rfl⟩;rw [sX];by_cases n:8<dM s
      .rw [j n];have:=ky (sb w1 h) (i:=8) (m:=dM s-8) (by omega);rwa [nh (by omega)] at this
      .exact⟨by omega,(λe=>by cases e),λx u i q=>by omega⟩
     have kR:=yh jz;clear kC c l7 a ie f jz sb sX M8 kv;generalize dM s=N at*;have y:(8:Int)<=(N:Int):=(by omega);go_wp2;go_quiet (fail);by_cases n:N=8
     .subst n;go_wp2;go_ret2;exact⟨_,by rw [JE.o];rfl,by rw [JE.o];exact kR.o _ _ (below_drewN cN.o _) (λh=>by omega),below_drewN cN.o _⟩
     .have z:¬(N:Int)=8:=(by omega);go_wp2;go_ret2;exact⟨_,by rw [JE.o];rfl,by rw [JE.o];exact kR.o _ _ (below_drewN cN.o _) (λh=>by omega),below_drewN cN.o _⟩
  .have iZ:=fg (.inl (by unfold fv;rw [aA (λh=>a h.2.2)]));have nS:=yh iZ;rw [decide_eq_false a] at b;clear iZ c a ie;generalize dM s=N at*;refine b.mono ?_;rintro e w1 ⟨k,rfl,_,aq⟩;have cN:=yh aq;clear aq b;go_wp2;go_ret2;exact⟨_,by rw [nS.o];rfl,by rw [nS.o];exact ip.nil _ _,cN.o⟩
end Go.Proofs.YtenlkgicpllbhaaGreat
