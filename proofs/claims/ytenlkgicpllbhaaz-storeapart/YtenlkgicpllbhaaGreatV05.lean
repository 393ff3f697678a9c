import Derived.Test.YtenlkgicpllbhaaGreatV01
import Derived.Test.YtenlkgicpllbhaaGreatV03
import Derived.Test.YtenlkgicpllbhaaGreatV04
import Derived.Scope
import Derived.WalkMore
import Derived.Deep.RegionLaw
import Derived.BigRegion
set_option maxRecDepth 20000
set_option maxHeartbeats 8000000
set_option linter.all false
namespace Go.Proofs.YtenlkgicpllbhaaGreat
open Go.Proofs.Tryz
open Go.RowKit Go.Maps
variable {cur:Array Value} {S:DS} {x:Int} {ps:List (Nat×List Int)} {d im l:List Int} {ks:List Nat} {ls vs xs ys:List Value} {E N P base c bZ cg cl f g g2 gl i j k n p q s size:Nat} {F G:Nat->Prop} {e e':TypeId} {a v:Value} {W w w' w0 w1 w2 w5:World}
section
open Go.RowKit Go.Shelf
attribute [local go_sem] Oper.semAt_some
def Gk (b c:Nat) (W W':World):Prop:=W'.heap[b]? =W.heap[b]?/\W'.heap[c]? =W.heap[c]?
theorem Gk.t {b:Nat} {A B C:World} (h:Gk b c A B) (k:Gk b c B C):Gk b c A C:=⟨k.1.trans h.1,k.2.trans h.2⟩
theorem Gk.b {b:Nat} (g:b<w.heap.size) (i:c<w.heap.size) (W:World) (l:Nat) (o e:Obj) (j:w.heap.size<=l) (f:W.heap[l]? =some o) (a:o.isCells=false) (d:o.isWalk=false):Gk b c W (W.putObj l e):=
   ⟨World.putObj_heap_other (by omega),World.putObj_heap_other (by omega)⟩
theorem Gk.refl (b c:Nat) (W:World):Gk b c W W:=⟨rfl,rfl⟩
theorem Nt (a:Option Addr) (n c:Nat) (w:World):
  Calls prog 214 #[.slice a n c,iV 492] w λe w'=>e= .returned (.func (.func 235) #[] #[pQ w.heap.size, .pointer (some ⟨w.heap.size+1,0,none⟩)])/\w'=(w.alloc (.cells #[.slice a n c] 36)).alloc (.cells #[.int .i64 492] 3):=by
 go_in;go_wp2;go_ret;exact⟨rfl,rfl⟩
def gk (n k:Nat):Nat:=min 492 (n-492*k)
def Vp (b o n q:Nat) (x:Fin q):Array Value:= #[.slice (some ⟨b,o+492*x.1,none⟩) (gk n x.1) (gk n x.1)]
set_option maxRecDepth 100000 in
theorem Nu (m:Nat) (X:1<=m) (l s p b o n c q:Nat) (kT:1<=n) (Y:n<=8364) (T:n<=c) (O:q=(n+491) / 492) (J D:List (Fin q)->World->Prop)
    (F:∀a (x:Fin q) W,J a W->a.length<q->YieldAt Fence.wide (m-1) prog l (Vp b o n q x) W λe W'=>
     (e= .returned (.bool true)/\J (a ++ [x]) W'/\Gk s p W W')\/(e= .returned (.bool false)/\D (a ++ [x]) W'))
    (W:World) (Ua:W.heap[s]? =some (.cells #[.slice (some ⟨b,o,none⟩) n c] 36 (0,0))) (f:W.heap[p]? =some (.cells #[.int .i64 492] 3 (0,0))) (E:AbidesFrom W.heap.size J) (h0:J [] W):
  CallsIn Fence.wide m prog 235 #[.func (.yield l) #[] #[],pQ s,pQ p] W λe W'=>(∃v,e= .returned v)/\
     ((∃ys,za ys q/\J ys W')\/(∃a,(∃k,k<q/\za a (k+1))/\D a W')):=by
 have P:n<=492*q/\492*q<n+492:=by omega
 clear O;refine callsIn_of_wp func235 rfl trivial ?_ rfl;simp only [ntmps235,List.size_toArray,List.length_cons,List.length_nil,Nat.reduceAdd,Nat.reduceSub,Array.replicate_succ,Array.replicate_zero,List.push_toArray,List.append_toArray,List.nil_append,List.cons_append]
 gi_wp2
 gi_loopw [4] (λi wr=>∃(k:Nat) (a:List (Fin q)),k<=q/\i=iV ((492*k:Nat):Int)/\za a k/\J a wr/\Gk s p W wr)
    (λi _=>492*q-(intOf i).toNat)
 case atStart=>exact⟨0, [],dU _,rfl,za.nil,h0,Gk.refl _ _ _⟩
 case round=>
  obtain⟨k,a,U,rfl,pK,d,fP⟩:=hrel;have G:=pK.length;have ed:=aL (fP.1.trans Ua);have oY:=aL (fP.2.trans f);by_cases bm:k<q
  .have g:=E a wr wr.drew none d ⟨rfl,rfl,rfl,bP _,λ_ _ _=>rfl⟩ (λr e=>by cases e);obtain⟨S,K,u,body,A,j⟩:=F a ⟨k,bm⟩ wr.drew g (by omega);have Zb:prog.follows .mixedOrders=true:=by kernel_rfl
   dsimp only [Vp] at A
   have Fr:gk n k=min 492 (n-492*k):=rfl;obtain⟨I,w⟩:=bQ (492*k);rw [<-w] at A Fr⊢;have N:I<n:=(by omega);obtain⟨z,H⟩:=bQ (gk n k);rw [<-H] at A Fr;have acg:min (492:Int) ((n-I:Nat):Int)=(z:Int):=(by omega);have PZ:((I:Int)+(z:Int)).toNat-I=z:=(by omega);have cw:(I:Int)<(n:Int):=(by omega);have M:(I:Int)<(c:Int):=(by omega);have Q:(I:Int)+(z:Int)<=(n:Int):=(by omega);have dr:(1:Int)<=(z:Int):=(by omega);have C:=yh w;clear w H Fr;have aia:=zb j;have L:=yh fP;have acO:=yh pK;clear j F d g fP E pK
   gi_wp2
   gi_region_with_o (fail)
   all_goals
    gi_wp2_with fail
    refine aia.mono ?_;rintro e R ⟨r,rfl,lG,fb⟩;obtain⟨Cu,zc⟩:=bL lG fb;clear lG fb;cases r
    .gi_wp2
     refine bodyPost_ret (results_none rfl _ _ _) rfl ?_;exact⟨⟨_,rfl⟩, .inr ⟨_,⟨k,bm,acO.o.snoc bm⟩,zc.o (by simp)⟩⟩
    .have aV:=L.o.t (Gk.t (B:=wr.drew) ⟨rfl,rfl⟩ (Cu.o rfl).2);have TX:=aL (aV.2.trans f);have ma:=yh aV;clear aV
     gi_wp2
     go_roundw;case rel=>exact⟨k+1,_,by omega,by rw [C.o];go_num,acO.o.snoc bm,(Cu.o (by simp)).1,ma.o⟩
     case measure=>have:=C.o;simp [intOf];omega
  .have y:=yh (show k=q by omega);have vQ:¬((492*k:Nat):Int)<(n:Int):=by omega
   gi_wp2
   go_end0
   exact⟨⟨_,rfl⟩, .inl ⟨a,(by rw [y.out] at pK;exact pK),d⟩⟩
theorem Gl (m:Nat) (s:1<=m) (e d b o n c q:Nat) (kT:1<=n) (t:n<=8364) (r:n<=c) (u:q=(n+491) / 492) (w:World)
    (Ua:w.heap[e]? =some (.cells #[.slice (some ⟨b,o,none⟩) n c] 36 (0,0))) (a:w.heap[d]? =some (.cells #[.int .i64 492] 3 (0,0))):
  SeqStopsK Fence.wide m prog 235 #[pQ e,pQ d] (Vp b o n q) (Gk e d) (λys=>za ys q) (λf=>∃k,k<q/\za f (k+1)) q w:=
 λl J i W g j _ p h0=>Nu m s l e d b o n c q kT t r u J i p W ((g.block _ (aw Ua)).trans Ua) ((g.block _ (aw a)).trans a) j h0
def IsC (w:World) (k:Nat):Prop:=∃cur t fz,w.heap[k]? =some (Obj.cells cur t fz)
theorem fa.narrow {w:World} {F G:Nat->Prop} {a:Nat} (b:∀k,F k->IsC w k->G k):∀{xs:List Value} {ls:List (List Int)},fa w F a xs ls->fa w G a xs ls
 | [], [],_=>trivial
 |_ :: _,_ :: _,⟨⟨g,c,h1,h2,h3,h4⟩,h5⟩=>⟨⟨g,c,h1,b g h2 (by obtain⟨cur,d,_⟩:=h4;exact⟨cur,_,_,d⟩),h3,h4⟩,fa.narrow b h5⟩
 | [],_ :: _,h=>h.elim
 |_ :: _, [],h=>h.elim
theorem gD.narrow {m:Nat} (h:gD w F p s S m) (b:∀k,F k->(IsC w k\/k=m)->G k) (v:∀k,G k->k<w.heap.size):gD w G p s S m:=by
 obtain⟨o,l,D,q,n,d,c,e,x,i,j,r,a,t⟩:=h;refine⟨o,l,D,q,n,b _ d (.inl ⟨_,_,_,i⟩),b _ c (.inl (by obtain⟨cur,f,_⟩:=j;exact⟨cur,_,_,f⟩)),b _ e (.inr rfl),v,i,j,r,⟨a.keys,a.Fq,a.look,λk g=>?_,a.inj⟩,t⟩;obtain⟨d,xs,c,e⟩:=a.row k g;exact⟨b _ d (.inl (by obtain⟨cur,f,_⟩:=c;exact⟨cur,_,_,f⟩)),xs,c,e.narrow (λk g u=>b k g (.inl u))⟩
theorem bS.fm {m:Nat} (h:bS w F p s S m):F m:=by
 obtain⟨r,c,a,D,d,b,h⟩:=h;exact h.fm
def FC (F:Nat->Prop) (B m:Nat) (w:World) (k:Nat):Prop:=(F k\/B<=k)/\(IsC w k\/k=m)/\k<w.heap.size
end
section
theorem fR {c:Func} {p:Tmp} (h:c.results= #[.cell p 49]) (a:Array Value) (w:World) (g:Nat) (v:Int)
    (e:a.getD p undef=pQ g) (f:w.cell? (aD g 0)=some (iV v)):(results c a).run prog w= .ok (iV v) w:=by
 have b:a[p]?.getD undef=pQ g:=by simpa using e
 have d:(loadVar 49 (aD g 0)).run prog w= .ok (iV v) w:=by simp [go_sem,f]
 simp [results,h,b,asAddr,d]
def partOf (d:List Int) (k:Nat):List Int:=(d.drop (492*k)).take 492
theorem J2 (d:List Int) (k:Nat):(partOf d k).length=gk d.length k:=by
 unfold partOf gk;simp
def cY (x:Nat):Nat:=(x+491) / 492
def cP (L:LG) (S:DS) (s:Nat) (d:List Int) (k:Nat):Int×DS:=stepsTo S (λj T=>jM T s L.f L.n L.ep (L.head+j) j (cY d.length) (partOf d j)) k
def LG.fN (L:LG) (S:DS) (x:Nat):Int:=
 if L.bd S≠0 then L.bd S else if x=0 then 2 else if 8364<x then 7 else if 1073741824<L.head+cY x then 41 else if L.tail+L.n<L.head+cY x then 40 else 0
def LG.append (L:LG) (S:DS) (s:Nat) (d:List Int):Int×DS×LG:=
 if L.fN S d.length≠0 then (L.fN S d.length,S,L)
 else if (cP L S s d (cY d.length)).1≠0 then ((cP L S s d (cY d.length)).1,(cP L S s d (cY d.length)).2,L)
 else (0,(cP L S s d (cY d.length)).2,{L with head:=L.head+cY d.length})
section
variable {w:World} {F:Nat->Prop} {p s l:Nat} {S:DS} {L:LG}
def gT (W:World) (b l:Nat):Prop:=W.heap[b]? =some (.cells #[.pointer (some ⟨l,0,none⟩)] 89 (0,0))/\W.heap[b+1]? =some (.cells #[.int .i64 0] 49 (0,0))
theorem gT.err {b l:Nat} (h:gT W b l) (v:Int):(W.setCell ⟨b+1,0,none⟩ (.int .i64 v)).cell? ⟨b+1,0,none⟩=some (iV v):=
 aj (cur:= #[iV v]) (e:=49) ((heap_setCell_same _ _ 0 _ _ _ h.2).trans (by simp)) (j:=0) rfl
theorem gT.later {W':World} {b l:Nat} (h:gT W b l) (a:bW W W'):gT W' b l:=⟨(a.block _ (aw h.1)).trans h.1,(a.block _ (aw h.2)).trans h.2⟩
theorem Nv (h:ax w F p s S) (J:cQ w l p L) (I:L.Ok s) (a:Option Addr) (x k:Nat) (z:x<=140737488355328) (b:L.fN S x≠0):
  Calls prog 175 #[pQ l, .slice a x k] w λe w'=>e= .returned (iV (L.fN S x))/\bW w w':=by
 obtain⟨M,JX⟩:=zEr ((w.alloc (.cells #[.pointer (some ⟨l,0,none⟩)] 89)).alloc (.cells #[.int .i64 0] 49));have fo:bW w M:=by rw [<-JX];exact iI _ _ _
 have Xh:gT M w.heap.size l:=by
  rw [<-JX];refine⟨(Below.heap_alloc _ _ _ (by simp)).trans (heap_alloc_new _ _),?_⟩;have:=heap_alloc_new (w.alloc (.cells #[.pointer (some ⟨l,0,none⟩)] 89)) (.cells #[.int .i64 0] 49);rwa [World.size_alloc] at this
 obtain⟨d,r,q,c,m,T,N⟩:=nW (jp (h.later fo) (J.later fo)) (yh JX) (yh Xh) (yh fo) (yh (J.later fo)) I.hi (yh I);unfold LG.fN at b⊢;clear h J fo Xh JX I;by_cases i:L.bd S=0
 .simp only [aA (λh:¬L.bd S=0=>h i)] at b⊢;rw [i] at d;clear i;by_cases A:x=0
  .simp only [aE A];have P:((x:Int) == 0)=true:=(by rw [beq_iff_eq];omega);clear b A;go_in;go_wp2_with fail;rw [r.o];refine bE d λw1 aq=>?_;have iA:=gT.later q.o aq;have u:w1.cell? (aD w.heap.size 0)=some (pQ l):=aL iA.1;have v:w1.cell? ⟨w.heap.size+1,0,none⟩=some (iV 0):=aL iA.2;have y:=ae iA.2 0;have cm:=m.o.later aq;have bK:=c.o.trans (aq.mono c.o.size);clear d aq;go_wp2_with fail;refine((λwx=>i5 x wx z) _).mono ?_;rintro e j ⟨rfl,dw⟩;have eB:=dw.symm;subst eB;clear dw;obtain⟨g,f⟩:=bL (bK.setCell (p:=⟨w.heap.size+1,0,none⟩) (by show _<=w.heap.size+1;omega) (iV 2)) (show (w1.setCell ⟨w.heap.size+1,0,none⟩ (.int .i64 2)).cell? ⟨w.heap.size+1,0,none⟩=some (iV 2) from iA.err _);clear bK iA cm;go_wp2_with fail;exact bodyPost_ret (fR rfl _ _ (w.heap.size+1) _ rfl f.o) rfl ⟨rfl,g.o⟩
  .simp only [aA A] at b⊢;have P:((x:Int) == 0)=false:=(by rw [eG];omega);clear A;by_cases D:8364<x
   .simp only [aE D];have Q:(8364:Int)<(x:Int):=(by omega);clear b D;go_in;go_wp2_with fail;rw [r.o];refine bE d λw1 aq=>?_;have iA:=gT.later q.o aq;have u:w1.cell? (aD w.heap.size 0)=some (pQ l):=aL iA.1;have v:w1.cell? ⟨w.heap.size+1,0,none⟩=some (iV 0):=aL iA.2;have y:=ae iA.2 0;have cm:=m.o.later aq;have bK:=c.o.trans (aq.mono c.o.size);clear d aq;go_wp2_with fail;refine((λwx=>i5 x wx z) _).mono ?_;rintro e j ⟨rfl,dw⟩;have eB:=dw.symm;subst eB;clear dw;obtain⟨g,f⟩:=bL (bK.setCell (p:=⟨w.heap.size+1,0,none⟩) (by show _<=w.heap.size+1;omega) (iV 7)) (show (w1.setCell ⟨w.heap.size+1,0,none⟩ (.int .i64 7)).cell? ⟨w.heap.size+1,0,none⟩=some (iV 7) from iA.err _);clear bK iA cm;go_wp2_with fail;exact bodyPost_ret (fR rfl _ _ (w.heap.size+1) _ rfl f.o) rfl ⟨rfl,g.o⟩
   .simp only [aA D] at b⊢;have Q:¬(8364:Int)<(x:Int):=(by omega);clear D;have mY:cY x=(x+491) / 492:=rfl;by_cases E:1073741824<L.head+cY x
    .simp only [aE E];clear b;obtain⟨C,t⟩:=bQ ((x+491) / 492);have YE:C<=17:=(by omega);have R:(1073741824:Int)<(L.head:Int)+(C:Int):=(by omega);have G:=yh t;clear E mY t;go_in;go_wp2_with fail;rw [r.o];refine bE d λw1 aq=>?_;have iA:=gT.later q.o aq;have u:w1.cell? (aD w.heap.size 0)=some (pQ l):=aL iA.1;have v:w1.cell? ⟨w.heap.size+1,0,none⟩=some (iV 0):=aL iA.2;have y:=ae iA.2 0;have bK:=c.o.trans (aq.mono c.o.size);have O:=(m.o.later aq).c7;clear d aq;go_wp2_with fail;refine((λwx=>i5 x wx z) _).mono ?_;rintro e j ⟨rfl,dw⟩;have eB:=dw.symm;subst eB;clear dw;rw [<-G.o];obtain⟨g,f⟩:=bL (bK.setCell (p:=⟨w.heap.size+1,0,none⟩) (by show _<=w.heap.size+1;omega) (iV 41)) (show (w1.setCell ⟨w.heap.size+1,0,none⟩ (.int .i64 41)).cell? ⟨w.heap.size+1,0,none⟩=some (iV 41) from iA.err _);clear bK iA;go_wp2_with fail;exact bodyPost_ret (fR rfl _ _ (w.heap.size+1) _ rfl f.o) rfl ⟨rfl,g.o⟩
    .simp only [aA E] at b⊢;by_cases K:L.tail+L.n<L.head+cY x
     .simp only [aE K];clear b;obtain⟨C,t⟩:=bQ ((x+491) / 492);have YE:C<=17:=(by omega);have R:¬(1073741824:Int)<(L.head:Int)+(C:Int):=(by omega);have X:(L.n:Int)-((L.head:Int)-(L.tail:Int))<(C:Int):=(by omega);have G:=yh t;clear E K mY t;go_in;go_wp2_with fail;rw [r.o];refine bE d λw1 aq=>?_;have iA:=gT.later q.o aq;have u:w1.cell? (aD w.heap.size 0)=some (pQ l):=aL iA.1;have v:w1.cell? ⟨w.heap.size+1,0,none⟩=some (iV 0):=aL iA.2;have y:=ae iA.2 0;have cm:=m.o.later aq;have bK:=c.o.trans (aq.mono c.o.size);have O:=cm.c7;clear d aq;go_wp2_with fail;refine((λwx=>i5 x wx z) _).mono ?_;rintro e j ⟨rfl,dw⟩;have eB:=dw.symm;subst eB;clear dw;rw [<-G.o];obtain⟨cN,H⟩:=bL bK iA;clear bK iA;go_wp2_with fail;refine(yV cm N.o).mono ?_;rintro e j ⟨rfl,aW⟩;have qC:=gT.later H.o aW;have eM:=cN.o.trans (aW.mono cN.o.size);have U:j.cell? ⟨w.heap.size+1,0,none⟩=some (iV 0):=aL qC.2;have Y:=ae qC.2 0;clear aW;obtain⟨g,f⟩:=bL (eM.setCell (p:=⟨w.heap.size+1,0,none⟩) (by show _<=w.heap.size+1;omega) (iV 40)) (show (j.setCell ⟨w.heap.size+1,0,none⟩ (.int .i64 40)).cell? ⟨w.heap.size+1,0,none⟩=some (iV 40) from qC.err _);clear eM qC cm;go_wp2_with fail;exact bodyPost_ret (fR rfl _ _ (w.heap.size+1) _ rfl f.o) rfl ⟨rfl,g.o⟩
     .exact absurd (aA K) b
 .simp only [aE (λh=>i h:¬L.bd S=0)];have W:(L.bd S == 0)=false:=by rw [eG];exact i
  clear b i;go_in;go_wp2_with fail;rw [r.o];refine bE d λw1 aq=>?_;have iA:=gT.later q.o aq;have u:w1.cell? (aD w.heap.size 0)=some (pQ l):=aL iA.1;have v:w1.cell? ⟨w.heap.size+1,0,none⟩=some (iV 0):=aL iA.2;have y:=ae iA.2 0;have cm:=m.o.later aq;obtain⟨g,f⟩:=bL ((c.o.trans (aq.mono c.o.size)).setCell (p:=⟨w.heap.size+1,0,none⟩) (by show _<=w.heap.size+1;omega) (iV (L.bd S))) (show (w1.setCell ⟨w.heap.size+1,0,none⟩ (.int .i64 (L.bd S))).cell? ⟨w.heap.size+1,0,none⟩=some (iV (L.bd S)) from iA.err _);clear iA cm;go_wp2_with fail;exact bodyPost_ret (fR rfl _ _ (w.heap.size+1) _ rfl f.o) rfl ⟨rfl,g.o⟩
end
end
section
theorem mM {S:DS} {g a:Nat->DS->Int×DS}:∀k,(∀j T,j<k->g j T=a j T)->stepsTo S g k=stepsTo S a k
 |0,_=>rfl
 |k+1,h=>by
  rw [stepsTo,stepsTo,mM (S:=S) k (λj T b=>h j T (by omega)),h k _ (by omega)]
def rp (L:LG) (S:DS) (s:Nat) (d:List Int) (xs:List Nat):Int×DS:=stepsTo S (λj T=>jM T s L.f L.n L.ep (L.head+j) j (cY d.length) (partOf d (xs.getD j 0))) xs.length
theorem Nx {L:LG} {S:DS} {s:Nat} {d:List Int} {xs:List Nat} (x:Nat) (h:(rp L S s d xs).1=0):
  rp L S s d (xs ++ [x])=jM (rp L S s d xs).2 s L.f L.n L.ep (L.head+xs.length) xs.length (cY d.length) (partOf d x):=by
 have e:stepsTo S (λj T=>jM T s L.f L.n L.ep (L.head+j) j (cY d.length) (partOf d ((xs ++ [x]).getD j 0))) xs.length=rp L S s d xs:=by
  unfold rp;refine mM _ (λj T a=>?_);rw [show (xs ++ [x]).getD j 0=xs.getD j 0 by simp [List.getElem?_append_left a]]
 unfold rp at*;rw [dT,List.length_singleton,jm (by rw [e];exact h),e];simp
theorem zh {L:LG} {S:DS} {s:Nat} {d:List Int} (k:Nat):rp L S s d (List.range k)=cP L S s d k:=by
 unfold rp cP;rw [List.length_range];refine mM _ (λj T a=>?_);rw [show (List.range k).getD j 0=j by simp [a]]
theorem Cx (S:DS) (s f n E P i c:Nat) (l:List Int):(jM S s f n E P i c l).2.puts.length<=S.puts.length+1:=by
 unfold jM;split
 .simp
 .exact i9 _ _ _ _ _
theorem Ny (L:LG) (S:DS) (s:Nat) (d:List Int) (xs:List Nat):(rp L S s d xs).2.puts.length<=S.puts.length+xs.length:=ou (λ_ _=>Cx _ _ _ _ _ _ _ _ _) _
theorem aa.grown {w W W':World} {F:Nat->Prop} {row:Option Nat} (h:aa F w W) (a:W.grownBy W' row) (d:∀r,row=some r->w.heap.size<=r):aa F w W':=
 h.trans (G:=λk=>some k=row) ⟨a.os,a.tape,a.output,a.size,λk b c=>a.block k b c⟩ (λk b=> .inr (d k b.symm))
section
variable {w W W':World} {F:Nat->Prop} {l p s m M n0:Nat} {L:LG} {S:DS} {d:List Int} {xs:List Nat}
end
end
section
open Go.RowKit Go.Shelf
attribute [local go_sem] Oper.semAt_some
theorem Src.sub {w:World} {b o:Nat} {l:List Int} (h:Src w (some (aD b o)) n l) (i k:Nat) (g:i+k<=n):Src w (some ⟨b,o+i,none⟩) k ((l.drop i).take k):=by
 have j:=h.1;refine⟨by simp;omega,by simp,?_⟩;intro z f t e;cases f;have h0:=h.2.2 _ rfl (i+t) (by omega);have c:(Addr.add (aD b o) (i+t))=Addr.add ⟨b,o+i,none⟩ t:=by
  unfold Addr.add;by_cases d:i+t=0
  .obtain⟨rfl,rfl⟩:i=0/\t=0:=(by omega);simp
  .by_cases a:t=0
   .subst a;rw [aA d,aE rfl];rfl
   .simp [a,Nat.add_assoc]
 rw [c] at h0;rw [h0];congr 2;simp [List.getD,e]
theorem EY {w:World} {F:Nat->Prop} {a m:Nat} (b:∀j,F j->j<w.heap.size) (c:w.heap.size<=k) (d:k<a):¬FC F a m W k:=λh=>by
 rcases h.1 with h|h
 .have:=b k h;omega
 .omega
theorem oy (h:Bytes d) (k:Nat):Bytes (partOf d k):=λv a=>h v (List.mem_of_mem_drop (List.mem_of_mem_take a))
section
variable {w:World} {F:Nat->Prop} {p s l:Nat} {S:DS} {L:LG}
theorem jC {x:Nat} (h:L.fN S x=0):L.bd S=0/\1<=x/\x<=8364/\L.head+cY x<=1073741824/\L.head+cY x<=L.tail+L.n:=by
 unfold LG.fN at h;split at h
 .exact absurd h (by assumption)
 .rename_i h0;split at h
  .omega
  .split at h
   .omega
   .split at h
    .omega
    .split at h
     .omega
     .refine⟨by omega,by omega,by omega,by omega,by omega⟩
end
end
theorem Vq (S:DS) (k:Nat) (l:List Int) (j:Nat):(S.put k l).now j=if j=k then l else S.now j:=by
 have e:ar (S.put k l).puts j=if j=k then ar S.puts k ++ [l] else ar S.puts j:=ij _ _ _ _;by_cases h:j=k
 .subst h;simp [DS.now,DS.gB,e]
 .have a:ar (S.put k l).puts j=ar S.puts j:=by rw [e,aA h]
  have b:(S.put k l).im=S.im:=rfl;simp [DS.now,DS.gB,a,b,h]
theorem jD (a:S.fuse≠0) (b:k<s) (l:List Int) (j:Nat):(S.wr s (k:Int) 512 l).2.now j=if j=k then l else S.now j:=by
 rw [oO a b];exact Vq S k l j
theorem tP (h:S.Ok s) (d:S.fuse≠0) (c:k<s) (e:l.length=512):(S.wr s (k:Int) 512 l).2.Ok s:=by
 rw [oO d c];refine⟨h.len,h.lo,h.hi,λq a=>?_,?_⟩
 .have b:q∈S.puts ++ [(k,l)]:=a;rcases List.mem_append.1 b with a|a
  .exact h.puts q a
  .rw [List.mem_singleton.1 a];exact⟨c,e⟩
 .have:=h.fuse;show-1<=(if 0<S.fuse then S.fuse-1 else S.fuse)/\(if 0<S.fuse then S.fuse-1 else S.fuse)<=_;split <;> omega
theorem eU (h:S.Ok s) (a:j<s):(S.fl s).2.now j=S.now j:=by
 unfold DS.fl;split
 .rfl
 .show (S.flush s).now j=S.now j;rw [tj _ _ rfl];exact nw s S.now (λk b=>br h k b) j a
theorem qx (h:S.Ok s):(S.fl s).2.Ok s:=by
 unfold DS.fl;split
 .exact h
 .refine⟨pk s _ (λk a=>br h k a),h.lo,h.hi,(λq b=>by cases b),?_⟩;have:=h.fuse;show-1<=(if 0<S.fuse then S.fuse-1 else S.fuse)/\(if 0<S.fuse then S.fuse-1 else S.fuse)<=_;split <;> omega
theorem kq (S:DS) (s:Nat) (x:Int) (n:Nat) (l:List Int):(S.wr s x n l).2.life=S.life:=by
 unfold DS.wr;split
 .rfl
 .split
  .rfl
  .split <;> rfl
theorem fO (S:DS) (s:Nat):(S.fl s).2.life=S.life:=by
 unfold DS.fl;split <;> rfl
theorem jf (h:(S.fl s).1=0):(S.fl s).2.puts= []:=by
 unfold DS.fl at*;split at h
 .simp at h
 .rename_i q;rw [aA q];rfl
theorem lf (h:(S.fl s).1≠0):(S.fl s).2=S/\S.fuse=0/\(S.fl s).1=3:=by
 unfold DS.fl at*;split at h
 .rename_i q;rw [aE q];exact⟨rfl,q,rfl⟩
 .exact absurd rfl h
theorem Q2 (b:k<s) (h:(S.wr s (k:Int) 512 l).1≠0):(S.wr s (k:Int) 512 l).2=S/\S.fuse=0:=by
 by_cases a:S.fuse=0
 .unfold DS.wr;rw [aE a];exact⟨rfl,a⟩
 .rw [oO a b] at h;exact absurd rfl h
theorem Ma (h:(S.wr s (k:Int) 512 l).1=0):S.fuse≠0:=λa=>by
 unfold DS.wr at h;rw [aE a] at h;simp at h
theorem is {r:List Int} (b:l.length=512) (c:r.length=512) (a:1<=N) (h:(am l r).2.1<N):(aN l r (N:Int) []).2.2=0:=by
 unfold aN;rw [aA (by omega),aA (by omega),aA (by simp)];simp only;rw [aA (by omega)];split <;> rfl
theorem J3 {r:List Int} (c:l.length=512) (d:r.length=512) (a:1<=N) (b:N<9223372036854775808) (h:(am l r).2.1<N):
    (am (yC l r (aN l r (N:Int) []).1 (aN l r (N:Int) []).2.1).1 (yC l r (aN l r (N:Int) []).1 (aN l r (N:Int) []).2.1).2).2.1=N:=by
 have e:(aN l r (N:Int) [])=if (am l r).2.2.2=0/\(am l r).1=0 then (1,be (cD (r.getD 0 0) (r.getD 511 0)) (aQ N ++ []),0) else (0,be (cD (l.getD 0 0) (l.getD 511 0)) (aQ N ++ []),0):=by
  unfold aN;rw [aA (by omega),aA (by omega),aA (by simp)];simp only;rw [aA (by omega),Int.toNat_natCast]
 rw [e];by_cases q:(am l r).2.2.2=0/\(am l r).1=0
 .rw [aE q];have:=tw (data:= []) c d b a (by simp) h (t:=cD (r.getD 0 0) (r.getD 511 0)) (by have:=gd (r.getD 0 0) (r.getD 511 0);omega) 1 (by rw [aE q]);simp only;rw [this]
 .rw [aA q];have:=tw (data:= []) c d b a (by simp) h (t:=cD (l.getD 0 0) (l.getD 511 0)) (by have:=gd (l.getD 0 0) (l.getD 511 0);omega) 0 (by rw [aA q]);simp only;rw [this]
theorem iJ (S:DS) (s f:Nat) (num:Int):(cW S s f num).2.life=S.life:=by
 unfold cW;split
 .rfl
 .split
  .rfl
  .split
   .exact kq _ _ _ _ _
   .rw [fO,kq]
def DS.num (S:DS) (f:Nat):Nat:=(am (S.now f) (S.now (f+1))).2.1
theorem tQ (h:S.Ok s) (c:f+1<s) (b:1<=N) (g:N<9223372036854775808) (bm:S.num f<N) (h0:(cW S s f (N:Int)).1=0):(cW S s f (N:Int)).2.num f=N/\(cW S s f (N:Int)).2.puts= []:=by
 have d:=br h f (by omega);have e:=br h (f+1) c;have dh:=is d e b bm;have a:=J3 d e b g bm;have mL:=fL (S.now f) (S.now (f+1)) (N:Int) [];have Ff:=kD (S.now f) (S.now (f+1)) (N:Int) [] dh;unfold cW at*;split at h0
 .simp at h0
 .rename_i zi;rw [aA zi];rw [aA (by omega)] at h0⊢;generalize aN (S.now f) (S.now (f+1)) (N:Int) []=Y at*;rw [show (f:Int)+(Y.1:Int)=((f+Y.1:Nat):Int) by omega] at h0⊢;have J4:(S.wr s ((f+Y.1:Nat):Int) 512 Y.2.1).1=0:=by rw [oO zi (by omega)]
  rw [aA (by omega)] at h0⊢;have Nz:=tP h zi (show f+Y.1<s by omega) Ff;refine⟨?_,jf h0⟩;unfold DS.num;rw [eU Nz (by omega),eU Nz c,jD zi (by omega),jD zi (by omega)];unfold yC at a;by_cases q:Y.1=0
  .rw [q] at a⊢;rw [aE (by omega),aA (by omega)];rw [aE rfl] at a;exact a
  .have i:Y.1=1:=(by omega);rw [i] at a⊢;rw [aA (by omega),aE rfl];rw [aA (by omega)] at a;exact a
theorem pN {num:Int} (c:f+1<s) (dh:(aN (S.now f) (S.now (f+1)) num []).2.2=0) (h0:(cW S s f num).1≠0):(cW S s f num).2.fuse=0/\(cW S s f num).2.puts.length<=S.puts.length+1:=by
 have mL:=fL (S.now f) (S.now (f+1)) num [];unfold cW at*;split at h0
 .rename_i zi;rw [aE zi];exact⟨zi,Nat.le_succ _⟩
 .rename_i zi;rw [aA zi];rw [aA (by omega)] at h0⊢;generalize aN (S.now f) (S.now (f+1)) num []=Y at*;rw [show (f:Int)+(Y.1:Int)=((f+Y.1:Nat):Int) by omega] at h0⊢;have J4:(S.wr s ((f+Y.1:Nat):Int) 512 Y.2.1).1=0:=by rw [oO zi (by omega)]
  rw [aA (by omega)] at h0⊢;obtain⟨a,b,_⟩:=lf h0;rw [a];exact⟨b,i9 _ _ _ _ _⟩
theorem NA (S:DS) (s f n E P i c:Nat) (l:List Int):(jM S s f n E P i c l).2.life=S.life:=by
 unfold jM;split
 .rfl
 .exact kq _ _ _ _ _
theorem Q3 (b:1<=n) (e:f+2+n<=s) (d:j<f+2):(jM S s f n E P i c l).2.now j=S.now j:=by
 have:=Nat.mod_lt P b;unfold jM;split
 .rfl
 .rename_i a;rw [jD a (by omega),aA (by omega)]
theorem Q4 (b:1<=n) (d:f+2+n<=s) (h:(jM S s f n E P i c l).1≠0):(jM S s f n E P i c l).2.fuse=0:=by
 have:=Nat.mod_lt P b;unfold jM at*;split at h
 .rename_i a;rw [aE a];exact a
 .rename_i a;rw [oO a (by omega)] at h;exact absurd rfl h
theorem mu {L:LG} {S:DS} {s:Nat} {d:List Int} (a:1<=L.n) (b:L.f+2+L.n<=s):∀k,(cP L S s d k).2.life=S.life/\(∀j,j<L.f+2->(cP L S s d k).2.now j=S.now j)/\((cP L S s d k).1≠0->(cP L S s d k).2.fuse=0)/\(cP L S s d k).2.puts.length<=S.puts.length+k
 |0=>⟨rfl,λ_ _=>rfl,λh=>absurd rfl h,bP _⟩
 |k+1=>by
  obtain⟨c,g,l,m⟩:=mu (L:=L) (S:=S) (d:=d) a b k;by_cases e:(cP L S s d k).1=0
  .have:cP L S s d (k+1)=jM (cP L S s d k).2 s L.f L.n L.ep (L.head+k) k (cY d.length) (partOf d k):=jm e;rw [this];refine⟨(NA _ _ _ _ _ _ _ _ _).trans c,λj i=>(Q3 a b i).trans (g j i),λh=>Q4 a b h,?_⟩;have:=Cx (cP L S s d k).2 s L.f L.n L.ep (L.head+k) k (cY d.length) (partOf d k);omega
  .have:cP L S s d (k+1)=cP L S s d k:=gw e (k+1) (by omega);rw [this];exact⟨c,g,l,by omega⟩
theorem lw {S:DS} {s f n:Nat} (h:S.Ok s) (o:f+n<=s):∀k,k<=n->(bA S s f k).2.life=S.life/\(bA S s f k).2.Ok s/\((bA S s f k).1≠0->(bA S s f k).2.fuse=0)/\((bA S s f k).1=0->∀j,j<k->(bA S s f k).2.now (f+j)=zs 512)
 |0,_=>⟨rfl,h,λh=>absurd rfl h,λ_ j m=>by omega⟩
 |k+1,hk=>by
  obtain⟨c,d,i,l⟩:=lw h o k (by omega);by_cases e:(bA S s f k).1=0
  .have b:bA S s f (k+1)=(bA S s f k).2.wr s ((f+k:Nat):Int) 512 (zs 512):=jm e;rw [b];by_cases a:(bA S s f k).2.fuse=0
   .have g:(bA S s f k).2.wr s ((f+k:Nat):Int) 512 (zs 512)=(3,(bA S s f k).2):=(by unfold DS.wr;rw [aE a]);rw [g];exact⟨c,d,λ_=>a,λh=>by simp at h⟩
   .refine⟨(kq _ _ _ _ _).trans c,tP d a (by omega) (bB 512),λh=>?_,λ_ j m=>?_⟩
    .rw [oO a (by omega)] at h;exact absurd rfl h
    .rw [jD a (by omega)];by_cases q:j=k
     .rw [aE (by omega)]
     .rw [aA (by omega)];exact l e j (by omega)
  .have b:bA S s f (k+1)=bA S s f k:=gw e (k+1) (by omega);rw [b];exact⟨c,d,i,λh=>absurd h e⟩
theorem tR:(sanchor (zs 512)).1=0:=by
 have a:dH (zs 512)= []:=by
  unfold dH;rw [show dM (zs 512)=0 from by unfold dM;rw [show (zs 512).getD 1 0=0 from rfl,show (zs 512).getD 2 0=0 from rfl];rfl];exact List.take_zero
 have b:sanchor (zs 512)=(0, []):=by
  refine fg ?_;unfold fv;split
  .exact .inr ⟨_,rfl, .inl (by rw [a];decide)⟩
  .exact .inl rfl
 rw [b]
theorem DW:(am (zs 512) (zs 512)).2.1=0:=by
 rw [lN (bB 512) (bB 512),aE ⟨tR,tR⟩]
theorem kF (h:S.Ok s) (k:f+2+n<=s):(cK S s f n).2.life=S.life/\(cK S s f n).2.Ok s/\((cK S s f n).1≠0->(cK S s f n).2.fuse=0)/\((cK S s f n).1=0->(cK S s f n).2.num f=0/\(cK S s f n).2.puts= []):=by
 obtain⟨b,a,i,c⟩:=lw (f:=f) h (n:=n+2) (by omega) (n+2) (bP _);unfold cK;by_cases e:(bA S s f (n+2)).1=0
 .rw [aA (by omega)];refine⟨(fO _ _).trans b,qx a,λh=>?_,λh=>⟨?_,jf h⟩⟩
  .obtain⟨d,g,_⟩:=lf h;rw [d];exact g
  .unfold DS.num;have j:(bA S s f (n+2)).2.now f=zs 512:=c e 0 (by omega);rw [eU a (by omega),eU a (by omega),j,(c e 1 (by omega))];exact DW
 .rw [aE e];exact⟨b,a,i,λh=>absurd h e⟩
section
def LG.Fit (L:LG) (S:DS):Prop:=
   (L.begun=true->S.puts.length<=L.head-L.tail/\S.num L.f<=L.ep*4294967296+L.tail)/\(L.begun=false->S.puts.length=0/\S.num L.f<(L.top+1)*4294967296)
theorem jr {t:Nat} (h0:0<=x) (a:x<=t) (b:t<=1000000000000000000):wrap64 (x+1)=x+1:=by
 unfold wrap64;omega
section
variable {S S':DS} {s t i:Nat} {ls:List LG} {L L':LG}
theorem DX (h:S.Ok s) (a:f+1<s):(S.fl s).2.num f=S.num f:=by
 unfold DS.num;rw [eU h (by omega),eU h a]
def LG.opened (S:DS) (f n hd:Nat):LG:={LG.new S f n with ep:=(bV S f).1,tail:=(bV S f).2.1,head:=hd,top:=ia S f n}
end
end
section
namespace V
structure Inv (S:DS) (s:Nat) (ls:List LG) (t:Nat):Prop where
 ok:S.Ok s
 pO:S.fC
 p6:S.puts.length<=6000
 p2:S.fuse≠0->S.puts.length<=256
 l0:0<=S.life
 lt:S.life<=t
 ol:∀L∈ls,L.Ok s/\L.life<=S.life
 li:(ls.map LG.life).Pairwise (·< ·)
 al:∀L∈ls,L.life=S.life->S.fuse≠0->L.Fit S
theorem jr {t:Nat} (h0:0<=x) (a:x<=t) (b:t<=1000000000000000000):wrap64 (x+1)=x+1:=by
 unfold wrap64;omega
section
variable {S S':DS} {s t i:Nat} {ls:List LG} {L L':LG}
theorem Inv.zero (c:S.Ok s) (pO:S.fC) (d:S.puts.length=0) (a:0<=S.life) (b:S.life<=t):Inv S s [] t:=
   ⟨c,pO,by omega,λ_=>by omega,a,b,λ_ h=>(by cases h),List.Pairwise.nil,λ_ h=>(by cases h)⟩
theorem Inv.step (h:Inv S s ls t):Inv S s ls (t+1):=⟨h.ok,h.pO,h.p6,h.p2,h.l0,by have:=h.lt;omega,h.ol,h.li,h.al⟩
theorem Inv.next (h:Inv S s ls t) (b:S'.Ok s) (pO:S'.fC) (d:S'.puts.length<=6000) (c:S'.fuse≠0->S'.puts.length<=256) (f:S'.life=S.life+1):Inv S' s ls (t+1):=by
 refine⟨b,pO,d,c,by have:=h.l0;omega,by have:=h.lt;omega,λL a=>⟨(h.ol L a).1,?_⟩,h.li,λL a e=>?_⟩
 .have:=(h.ol L a).2;omega
 .have:=(h.ol L a).2;omega
theorem Inv.at (h:Inv S s ls t) (a:ls[i]? =some L):L.Ok s/\L.life<=S.life:=h.ol L (gu a)
theorem pP (h:(ls.map LG.life).Pairwise (·< ·)) (g:ls[i]? =some L) (k:ls[j]? =some L') (e:L'.life=L.life):j=i:=by
 rw [List.pairwise_iff_getElem] at h;obtain⟨d,b⟩:=mG.1 g;obtain⟨f,c⟩:=mG.1 k;rcases Nat.lt_trichotomy j i with a|a|a
 .have:=h j i (by simpa using f) (by simpa using d) a;simp only [List.getElem_map,b,c] at this;omega
 .exact a
 .have:=h i j (by simpa using d) (by simpa using f) a;simp only [List.getElem_map,b,c] at this;omega
theorem Inv.on (h:Inv S s ls t) (g:ls[i]? =some L) (p:L.life=S.life) (l:S'.Ok s) (pO:S'.fC) (q:S'.life=S.life) (m:S'.puts.length<=6000) (b:L'.Ok s) (MS:L'.life=L.life) (c:S'.fuse≠0->L'.Fit S'):Inv S' s (ls.set i L') t:=by
 have bm:=(mG.1 g).1;have rj:∀M∈ls.set i L',M=L'\/∃j,j≠i/\ls[j]? =some M:=λM d=>by
  obtain⟨j,a⟩:=List.mem_iff_getElem?.1 d;by_cases e:j=i
  .subst e;rw [List.getElem?_set_self bm] at a;exact .inl (Option.some.inj a).symm
  .rw [List.getElem?_set_ne (λh=>e h.symm)] at a;exact .inr ⟨j,e,a⟩
 refine⟨l,pO,m,λf=>?_,by have:=h.l0;omega,by have:=h.lt;omega,λM d=>?_,?_,λM d e f=>?_⟩
 .have:=c f;unfold LG.Fit at this;have n:=b.hn;have o:=b.n2;cases k:L'.begun with
  |true=>have:=(this.1 k).1;omega
  |false=>have:=(this.2 k).1;omega
 .rcases rj M d with rfl|⟨j,_,a⟩
  .exact⟨b,by omega⟩
  .have:=h.at a;exact⟨this.1,by omega⟩
 .rw [List.map_set,MS];have:ls.map LG.life=(ls.map LG.life).set i L.life:=by
   apply List.ext_getElem?;intro j;by_cases e:j=i
   .subst e;rw [List.getElem?_set_self (by simpa using bm),Bd,g];rfl
   .rw [List.getElem?_set_ne (λh=>e h.symm)]
  rw [<-this];exact h.li
 .rcases rj M d with rfl|⟨j,dG,a⟩
  .exact c f
  .exact absurd (pP h.li g a (by omega)) dG
theorem Inv.same (h:Inv S s ls t) (a:ls[i]? =some L):Inv S s (ls.set i L) t:=by
 have:ls.set i L=ls:=by
  apply List.ext_getElem?;intro j;by_cases e:j=i
  .subst e;rw [List.getElem?_set_self (mG.1 a).1,a]
  .rw [List.getElem?_set_ne (λh=>e h.symm)]
 rw [this];exact h
theorem jE (h:L.dead S=false):L.life=S.life/\S.fuse≠0:=by
 unfold LG.dead at h;rw [Bool.or_eq_false_iff] at h;have a:=h.1;rw [eG] at a;have:S.life=L.life:=by simpa using h.2
 exact⟨this.symm,a⟩
theorem j2 (h:L.bd S=0):L.dead S=false/\L.begun=true:=by
 unfold LG.bd at h;split at h
 .omega
 .rename_i a;split at h
  .rename_i b;exact⟨by simpa using a,b⟩
  .omega
theorem DX (h:S.Ok s) (a:f+1<s):(S.fl s).2.num f=S.num f:=by
 unfold DS.num;rw [eU h (by omega),eU h a]
theorem Inv.take (h:Inv S s ls t) (a:t<=1000000000000000000):Inv S.take s ls (t+1):=
 h.next ⟨h.ok.len,h.ok.lo,h.ok.hi,h.ok.puts,h.ok.fuse⟩ h.pO.take h.p6 h.p2 (jr h.l0 h.lt a)
theorem Inv.il (h:Inv S s ls t) (a:t<=1000000000000000000) (l:List P3) (b:(S.il s l).Ok s):Inv (S.il s l) s ls (t+1):=
 h.next b (h.pO.il s l) (dU _) (λ_=>dU _) (jr h.l0 h.lt a)
theorem Q5 (S:DS) (x:Int):(S.lay x).puts=S.puts/\(S.lay x).life=S.life/\(S.lay x).im=S.im/\((S.lay x).fuse≠0->S.fuse≠0):=by
 unfold DS.lay;split
 .exact⟨rfl,rfl,rfl,λh=>h⟩
 .rename_i h;exact⟨rfl,rfl,rfl,λ_=>h⟩
theorem Inv.lay (h:Inv S s ls t) (x:Int) (j:(S.lay x).Ok s):Inv (S.lay x) s ls t:=by
 obtain⟨a,b,i,f⟩:=Q5 S x;refine⟨j,h.pO.lay x,by rw [a];exact h.p6,λd=>by rw [a];exact h.p2 (f d),by rw [b];exact h.l0,by rw [b];exact h.lt,λL c=>by rw [b];exact h.ol L c,h.li,λL c e d=>?_⟩;have:=h.al L c (by rw [<-b];exact e) (f d);have g:∀k,(S.lay x).now k=S.now k:=λk=>by unfold DS.now DS.gB;rw [a,i]
 unfold LG.Fit DS.num at*;rw [g,g,a];exact this
theorem Inv.sync (h:Inv S s ls t) (a:ls[i]? =some L):Inv (L.sync S s).2 s (ls.set i L) t:=by
 unfold LG.sync;split
 .exact h.same a
 .rename_i k;obtain⟨hd,f⟩:=j2 (Decidable.of_not_not k);obtain⟨d,g⟩:=jE hd;have b:=(h.at a).1;have m:=b.s;have l:=b.n1;by_cases e:(S.fl s).1=0
  .have j:=jf e;refine h.on a d (qx h.ok) (h.pO.fl s) (fO S s) (by rw [j];exact dU _) b rfl (λ_=>⟨λ_=>⟨by rw [j];exact dU _,?_⟩,λc=>by rw [f] at c;cases c⟩);rw [DX h.ok (by omega)];exact((h.al L (gu a) d g).1 f).2
  .have:=lf e;exact absurd this.2.1 g
theorem Inv.start (h:Inv S s ls t) (d:ls[i]? =some L) (a:(L.start S s).2.1.Ok s):Inv (L.start S s).2.1 s (ls.set i (L.start S s).2.2) t:=by
 unfold LG.start at*;split
 .exact h.same d
 .rename_i hd;rw [aA hd] at a;obtain⟨j,n⟩:=jE (by simpa using hd:L.dead S=false);split
  .exact h.same d
  .rename_i k;rw [aA k] at a;have eC:L.begun=false:=(by simpa using k);have b:=(h.at d).1;have Fo:=(h.al L (gu d) j n).2 eC;obtain⟨q,o,r⟩:=jw b.s b.n1 b.top;have l:(((L.top+1:Nat):Int)*4294967296+((0:Nat):Int))=(((L.top+1)*4294967296:Nat):Int):=(by omega);rw [l] at a⊢;obtain⟨N,m⟩:=bQ ((L.top+1)*4294967296);rw [<-m] at a Fo⊢;have p:=is (br h.ok L.f (by omega)) (br h.ok (L.f+1) (by omega)) (N:=N) (by omega) Fo.2;split
   .rename_i h0;rw [aE h0] at a;obtain⟨e,g⟩:=pN (by omega) p h0
    dsimp only at a⊢
    exact h.on d j a (h.pO.cW s L.f _) (iJ _ _ _ _) (by omega) b rfl (λc=>absurd e c)
   .rename_i h0;rw [aA h0] at a;obtain⟨e,g⟩:=tQ (s:=s) (f:=L.f) (N:=N) h.ok (by omega) (by omega) (by omega) Fo.2 (Decidable.of_not_not h0)
    dsimp only at a⊢
    refine h.on d j a (h.pO.cW s L.f _) (iJ _ _ _ _) (by rw [g];exact dU _) ⟨q,o,b.n2,by show L.top+1<=_;omega,b.top,bP _,by show 0<=_;omega,by show 0<=_;omega,λ_=>by show 0<=_;omega⟩ rfl (λ_=>⟨λ_=>⟨by rw [g];exact dU _,?_⟩,λc=>by cases c⟩);show (cW S s L.f (N:Int)).2.num L.f<=(L.top+1)*4294967296+0;rw [e];omega
theorem J5 (h:L.fN S i=0):L.bd S=0/\1<=i/\i<=8364/\L.head+cY i<=1073741824/\L.head+cY i<=L.tail+L.n:=by
 unfold LG.fN at h
 repeat' split at h
 all_goals first|omega|(rename_i a b c d e;exact⟨by omega,by omega,by omega,by omega,by omega⟩)
theorem NB (h:S.fC) (hd:Bytes d) (k:Nat):(cP L S s d k).2.fC:=
 mr h (λj T a=>by
  unfold jM;split
  .exact a
  .exact a.wr s _ _ (vW (mt ((hd.drop _).take _)))) k
theorem Inv.append (h:Inv S s ls t) (e:ls[i]? =some L) (hd:Bytes d) (b:(L.append S s d).2.1.Ok s):Inv (L.append S s d).2.1 s (ls.set i (L.append S s d).2.2) t:=by
 unfold LG.append at*;split
 .exact h.same e
 .rename_i j;rw [aA j] at b;obtain⟨r,jA,l8,p,w⟩:=J5 (Decidable.of_not_not j);obtain⟨yq,k⟩:=j2 r;obtain⟨g,l⟩:=jE yq;have a:=(h.at e).1;have Fo:=(h.al L (gu e) g l).1 k;obtain⟨m,q,mg,dZ,uK⟩:=ey a.s a.n1 a.n2 a.th (h.p2 l);have v:cY d.length<=17:=by unfold cY;omega
  obtain⟨n,o,u,x⟩:=mu (L:=L) (S:=S) (s:=s) (d:=d) (by omega) m (cY d.length);have cZ:=NB (L:=L) (s:=s) h.pO hd (cY d.length);split
  .rename_i h0;rw [aE h0] at b
   dsimp only at b⊢
   exact h.on e g b cZ n (by omega) a rfl (λc=>absurd (u h0) c)
  .rename_i h0;rw [aA h0] at b
   dsimp only at b⊢
   refine h.on e g b cZ n (by omega) ⟨m,q,mg,a.ep,a.top,by show L.tail<=L.head+_;omega,by show L.head+_<=_;omega,by show L.head+_<=_;omega,λ_=>p⟩ rfl (λ_=>⟨λ_=>⟨?_,?_⟩,λc=>by rw [show ({L with head:=L.head+cY d.length}:LG).begun=L.begun from rfl,k] at c;cases c⟩)
   .show _<=L.head+cY d.length-L.tail;omega
   .show DS.num _ L.f<=_;unfold DS.num;rw [o L.f (by omega),o (L.f+1) (by omega)];exact Fo.2
theorem Inv.format (h:Inv S s ls t) (q:t<=1000000000000000000) (f n:Int) (d:(cy S s f n).2.Ok s):Inv (cy S s f n).2 s ls (t+1):=by
 unfold cy at*;split
 .exact h.step
 .rename_i j;rw [aA j] at d;obtain⟨o,a,b,rfl,rfl,oz,aq,aW⟩:=fM (Decidable.of_not_not j);simp only [Int.toNat_natCast] at*;have zj:=jr h.l0 h.lt q;have dh:S.take.Ok s:=⟨h.ok.len,h.ok.lo,h.ok.hi,h.ok.puts,h.ok.fuse⟩;obtain⟨l,g,r,u⟩:=kF (f:=a) (n:=b) dh oz;have x:=sm S.take s a b;have uK:S.take.puts.length<=256:=h.p2 o;split
  .rename_i h0;rw [aE h0] at d;exact h.next d (h.pO.take.QM s a b) (by omega) (λc=>absurd (r h0) c) (l.trans zj)
  .rename_i h0;rw [aA h0] at d;obtain⟨m,v⟩:=u (Decidable.of_not_not h0);have p:=is (br g a (by omega)) (br g (a+1) (by omega)) (N:=4294967296) (by omega) (by show DS.num _ a<_;rw [m];omega);have fy:=(iJ (cK S.take s a b).2 s a 4294967296).trans (l.trans zj);by_cases k:(cW (cK S.take s a b).2 s a 4294967296).1=0
   .obtain⟨i,e⟩:=tQ (s:=s) (f:=a) (N:=4294967296) g (by omega) (by omega) (by omega) (by rw [m];omega) k;have w:(cW (cK S.take s a b).2 s a 4294967296).2.puts.length=0:=congrArg List.length e;exact h.next d ((h.pO.take.QM s a b).cW s a _) (by omega) (λ_=>by omega) fy
   .obtain⟨i,e⟩:=pN (by omega) p k;rw [v] at e;exact h.next d ((h.pO.take.QM s a b).cW s a _) (jQ e (by simp)) (λc=>absurd i c) fy
theorem Inv.xz (h:Inv S s ls t) (b:t<=1000000000000000000) (f n:Int) (a:(bu S s f n).1≠0):Inv (bu S s f n).2 s ls (t+1):=by
 unfold bu at*;split
 .exact h.step
 .rename_i d;rw [aA d] at a;split
  .exact h.take b
  .rename_i e;rw [aA e] at a;split
   .exact h.take b
   .rename_i g;rw [aA g] at a;obtain⟨c,i,_⟩:=lf a;rw [c];exact h.take b
theorem Inv.opened (h:Inv S s ls t) (A:t<=1000000000000000000) (f n:Int) (m:(bu S s f n).2.Ok s) (d:(bu S s f n).1=0) {hd:Nat} (u:(bV S f.toNat).2.1<=hd) (v:hd<=(bV S f.toNat).2.1+n.toNat):Inv (bu S s f n).2 s (ls ++ [LG.opened S f.toNat n.toNat hd]) (t+1):=by
 unfold bu at*;split
 .rename_i l;rw [aE l] at d;exact absurd d l
 .rename_i l;rw [aA l] at m d;split
  .rename_i j;rw [aE j] at d;exact absurd (Int.ofNat_eq_zero.1 d) j
  .rename_i j;rw [aA j] at m d;split
   .rename_i p;rw [aE p] at d;cases d
   .rename_i p;rw [aA p] at m d;obtain⟨z,a,b,rfl,rfl,oz,aq,aW⟩:=fM (Decidable.of_not_not l);simp only [Int.toNat_natCast] at*;have zj:=jr h.l0 h.lt A;have dh:S.take.Ok s:=⟨h.ok.len,h.ok.lo,h.ok.hi,h.ok.puts,h.ok.fuse⟩;have o:=jf d;have fy:(S.take.fl s).2.life=S.life+1:=(fO _ _).trans zj;have E:=xE (Decidable.of_not_not j);have PZ:=xF (n:=b) (Decidable.of_not_not j);have i:=h.next m (h.pO.take.fl s) (by rw [o];exact dU _) (λ_=>by rw [o];exact dU _) fy;have w:(LG.opened S a b hd).life=S.life+1:=zj;refine⟨i.ok,i.pO,i.p6,i.p2,i.l0,i.lt,λM k=>?_,?_,λM k e z=>?_⟩
    .rcases List.mem_append.1 k with g|g
     .exact i.ol M g
     .obtain rfl:=List.mem_singleton.1 g;refine⟨⟨oz,aq,aW,E.2.1,?_,u,v,?_,λc=>by cases c⟩,by omega⟩
      .show ia S a b<_;omega
      .show hd<=_;omega
    .rw [List.map_append,List.pairwise_append];refine⟨h.li,List.pairwise_singleton _ _,λx C y D=>?_⟩;obtain⟨M,k,rfl⟩:=List.mem_map.1 C;have:=(h.ol M k).2;simp only [List.map_cons,List.map_nil,List.mem_singleton] at D;omega
    .rcases List.mem_append.1 k with g|g
     .have:=(h.ol M g).2;omega
     .obtain rfl:=List.mem_singleton.1 g;refine⟨λc=>(by cases c),λ_=>⟨(by rw [o];rfl),?_⟩⟩;rw [show (LG.opened S a b hd).f=a from rfl,DX dh (by omega)];have r:S.take.num a=S.num a:=rfl;have G:(bV S a).1=S.num a / 4294967296:=by
       have q:=Decidable.of_not_not j;unfold bV gU at*;split at q
       .cases q
       .rename_i F;rw [aA F];rfl
      have H:(bV S a).1<=ia S a b:=(by unfold ia;omega);rw [r];show S.num a<(ia S a b+1)*4294967296;omega
end
end V
end
abbrev CM:=List (Nat×List Int)
def CM.get:CM->Nat->Option (List Int)
 | [],_=>none
 |q :: qs,k=>if q.1=k then some q.2 else CM.get qs k
def CM.put:CM->Nat->List Int->CM
 | [],k,c=> [(k,c)]
 |q :: qs,k,c=>if k<q.1 then (k,c) :: q :: qs else if k=q.1 then (k,c) :: qs else q :: CM.put qs k c
def CM.Ok (ms:CM):Prop:=ms.Pairwise (λa b=>a.1<b.1)
def CM.keys (ms:CM):List Nat:=ms.map (·.1)
namespace CM
theorem lO (q:Nat×List Int) (a:CM) (k:Nat):get (q :: a) k=if q.1=k then some q.2 else get a k:=rfl
theorem kG {ms:CM} (h:∀q∈ms,q.1≠k):get ms k=none:=by
 induction ms with
 |nil=>rfl
 |cons q c b=>
  unfold get;rw [aA (h q List.mem_cons_self)];exact b (λx a=>h x (List.mem_cons_of_mem _ a))
theorem get_mem {ms:CM} {c:List Int} (h:get ms k=some c):(k,c)∈ms:=by
 induction ms with
 |nil=>cases h
 |cons q b a=>
  unfold get at h;split at h
  .rename_i e;cases h;rw [<-e];exact List.mem_cons_self
  .exact List.mem_cons_of_mem _ (a h)
theorem get_of_mem {ms:CM} (b:Ok ms) {c:List Int} (h:(k,c)∈ms):get ms k=some c:=by
 induction ms with
 |nil=>cases h
 |cons q f d=>
  unfold get;rcases List.mem_cons.1 h with e|a
  .rw [<-e,aE rfl]
  .have:=(List.pairwise_cons.1 b).1 (k,c) a;rw [aA (by simp only at this;omega)];exact d (List.pairwise_cons.1 b).2 a
theorem kr (ms:CM) (k:Nat) (c:List Int) (j:Nat) (d:Ok ms):get (put ms k c) j=if j=k then some c else get ms j:=by
 induction ms with
 |nil=>
  unfold put;simp only [get];by_cases e:j=k
  .rw [aE e.symm,aE e]
  .rw [aA (λh=>e h.symm),aA e]
 |cons q g f=>
  unfold put;by_cases b:k<q.1
  .rw [aE b];by_cases e:j=k
   .rw [aE e];unfold get;rw [aE e.symm]
   .rw [aA e]
    conv=>lhs;unfold get
    rw [aA (λh=>e h.symm)]
  .rw [aA b];by_cases a:k=q.1
   .rw [aE a];by_cases e:j=k
    .rw [aE e];unfold get;rw [aE e.symm]
    .rw [aA e]
     conv=>lhs;unfold get
     conv=>rhs;unfold get
     rw [aA (λh=>e h.symm),aA (λh=>e (a▸h.symm))]
   .rw [aA a]
    conv=>lhs;unfold get
    by_cases e:q.1=j
    .rw [aE e,aA (λh=>a (h.symm.trans e.symm))]
     conv=>rhs;unfold get
     rw [aE e]
    .rw [aA e,f (List.pairwise_cons.1 d).2]
     conv=>rhs;rhs;unfold get
     rw [aA e]
theorem qL {ms:CM} {c:List Int} {q:Nat×List Int} (h:q∈put ms k c):q=(k,c)\/q∈ms:=by
 induction ms with
 |nil=>
  unfold put at h;exact .inl (List.mem_singleton.1 h)
 |cons x xs a=>
  unfold put at h;split at h
  .rcases List.mem_cons.1 h with h|h
   .exact .inl h
   .exact .inr h
  .split at h
   .rcases List.mem_cons.1 h with h|h
    .exact .inl h
    .exact .inr (List.mem_cons_of_mem _ h)
   .rcases List.mem_cons.1 h with h|h
    .exact .inr (h▸List.mem_cons_self)
    .exact(a h).imp id (List.mem_cons_of_mem _)
theorem uZ {ms:CM} (d:Ok ms) (k:Nat) (c:List Int):Ok (put ms k c):=by
 induction ms with
 |nil=>exact List.pairwise_singleton _ _
 |cons x xs e=>
  have b:=List.pairwise_cons.1 d;unfold put;split
  .rename_i h;refine List.pairwise_cons.2 ⟨λy a=>?_,d⟩;rcases List.mem_cons.1 a with rfl|a
   .exact h
   .exact Nat.lt_trans h (b.1 y a)
  .split
   .rename_i h;exact List.pairwise_cons.2 ⟨λy a=>by show k<y.1;rw [h];exact b.1 y a,b.2⟩
   .rename_i f g;refine List.pairwise_cons.2 ⟨λy a=>?_,e b.2⟩;rcases qL a with rfl|a
    .show x.1<k;omega
    .exact b.1 y a
theorem sv {ms:CM} (g:Ok ms) (k:Nat) (c:List Int):(put ms k c).length=if (get ms k).isSome then ms.length else ms.length+1:=by
 induction ms with
 |nil=>rfl
 |cons x xs i=>
  have f:=List.pairwise_cons.1 g;unfold put;by_cases d:k<x.1
  .rw [aE d,kG (λq b=>by
    rcases List.mem_cons.1 b with rfl|b
    .omega
    .have:=f.1 q b;omega)]
   rfl
  .rw [aA d];by_cases a:k=x.1
   .rw [aE a];unfold get;rw [aE a.symm];rfl
   .rw [aA a];have e:get (x :: xs) k=get xs k:=(by rw [lO,aA (λh=>a h.symm)]);rw [e,List.length_cons,i f.2,List.length_cons];split <;> rfl
theorem ext:∀{ms ns:CM},Ok ms->Ok ns->(∀k,get ms k=get ns k)->ms=ns
 | [], [],_,_,_=>rfl
 | [],q :: qs,_,_,h=>by
  have:=h q.1;unfold get at this;rw [aE rfl] at this;cases this
 |q :: qs, [],_,_,h=>by
  have:=h q.1;unfold get at this;rw [aE rfl] at this;cases this
 |(a,c) :: qs,(b,d) :: rs,h1,h2,h=>by
  have l:=List.pairwise_cons.1 h1;have m:=List.pairwise_cons.1 h2;have f:=h a;have i:=h b;unfold get at f i;rw [aE rfl] at f;by_cases e:a=b
  .subst e;rw [aE rfl] at f;cases f;congr 1;refine ext l.2 m.2 (λk=>?_);by_cases g:k=a
   .subst g;rw [kG (λq j=>by have:=l.1 q j;simp only at this;omega),kG (λq j=>by have:=m.1 q j;simp only at this;omega)]
   .have:=h k;unfold get at this;rwa [aA (λh=>g h.symm),aA (λh=>g h.symm)] at this
  .exfalso;rw [aA (λh=>e h.symm)] at f;rw [aA e,aE rfl] at i;have n:=m.1 _ (get_mem f.symm);have o:=l.1 _ (get_mem i);simp only at n o;omega
theorem Vr {ms:CM} (a:Ok ms):(keys ms).Pairwise (·< ·):=List.Pairwise.map _ (λ_ _ h=>h) a
def bX (ms ns:CM):CM:=ns.foldl (λm q=>put m q.1 q.2) ms
theorem qM {ms:CM} (a:Ok ms):∀(ns:CM),Ok (bX ms ns):=λns=>by
 induction ns generalizing ms with
 |nil=>exact a
 |cons q c b=>exact b (uZ a _ _)
theorem Q6 {ms:CM} (a:Ok ms) (k:Nat):∀{ns:CM},Ok ns->get (bX ms ns) k=(get ns k).or (get ms k):=λ{ns} b=>by
 induction ns generalizing ms with
 |nil=>rfl
 |cons q f d=>
  have p:=List.pairwise_cons.1 b;show get (bX (put ms q.1 q.2) f) k=_;rw [d (uZ a _ _) p.2,kr _ _ _ _ a];rw [lO];by_cases e:k=q.1
  .rw [aE e,aE e.symm,kG (λx c=>by have:=p.1 x c;omega)];rfl
  .rw [aA e,aA (λh=>e h.symm)]
end CM
def fnd:List (Nat×List Int)->Nat->Option (List Int)
 | [],_=>none
 |q :: qs,b=>(fnd qs b).or (if q.1=b then some q.2 else none)
theorem uB {b:Nat} (h:∀q∈ps,q.1≠b):fnd ps b=none:=by
 induction ps with
 |nil=>rfl
 |cons q d c=>rw [fnd,c (λx a=>h x (List.mem_cons_of_mem _ a)),aA (h q List.mem_cons_self)];rfl
theorem lX (a c:List (Nat×List Int)) (b:Nat):fnd (a ++ c) b=(fnd c b).or (fnd a b):=by
 induction a with
 |nil=>simp [fnd]
 |cons q d e=>
  show (fnd (d ++ c) b).or _=(fnd c b).or ((fnd d b).or _);rw [e,Option.or_assoc]
theorem EZ {b:Nat} {c:List Int} (h:fnd ps b=some c):(b,c)∈ps:=by
 induction ps with
 |nil=>cases h
 |cons q f d=>
  rw [fnd] at h;cases a:fnd f b with
  |some x=>
   rw [a] at h;cases h;exact List.mem_cons_of_mem _ (d a)
  |none=>
   rw [a] at h;by_cases e:q.1=b
   .rw [aE e] at h;cases h;rw [<-e];exact List.mem_cons_self
   .rw [aA e] at h;cases h
theorem TS {b:Nat} (d:i<ps.length) (c:ps[i].1=b) (g:∀j (f:j<ps.length),i<j->ps[j].1≠b):fnd ps b=some ps[i].2:=by
 have e:ps=ps.take i ++ ps[i] :: ps.drop (i+1):=by rw [<-List.drop_eq_getElem_cons d,List.take_append_drop]
 have k:fnd (ps.drop (i+1)) b=none:=uB (λq l=>by
  obtain⟨j,f,rfl⟩:=List.mem_iff_getElem.1 l;rw [List.getElem_drop];exact g _ _ (by omega))
 have a:=lX (ps.take i) (ps[i] :: ps.drop (i+1)) b;rw [<-e,fnd,k,aE c] at a;rw [a];simp
theorem Cy (b:Nat):∀{ms:CM},CM.Ok ms->CM.get (CM.bX ms ps) b=(fnd ps b).or (CM.get ms b):=by
 induction ps with
 |nil=>intro ms _;rfl
 |cons q d c=>
  intro ms a;show CM.get (CM.bX (CM.put ms q.1 q.2) d) b=_;rw [c (CM.uZ a _ _),CM.kr _ _ _ _ a,fnd,Option.or_assoc];congr 1;by_cases e:b=q.1
  .rw [aE e,aE e.symm];rfl
  .rw [aA e,aA (λh=>e h.symm)];rfl
theorem pR (ms a c:CM):CM.bX ms (a ++ c)=CM.bX (CM.bX ms a) c:=List.foldl_append
theorem rD:CM.Ok []:=List.Pairwise.nil
theorem gL (ps:List (Nat×List Int)) (b:Nat):CM.get (CM.bX [] ps) b=fnd ps b:=by rw [Cy b rD];simp [CM.get]
def below (ms:CM) (b:Nat):CM:=ms.filter (λq=>decide (q.1<b))
theorem oA {ms:CM} {b:Nat} (h:∀q∈ms,¬q.1<b):below ms b= []:=by
 unfold below;rw [List.filter_eq_nil_iff];intro q a;simpa using h q a
theorem Cz {ms:CM} {b:Nat} (h:∀q∈ms,q.1<b):below ms b=ms:=by
 unfold below;rw [List.filter_eq_self];intro q a;simpa using h q a
theorem sw (q:Nat×List Int) (a:CM) (b:Nat):below (q :: a) b=if q.1<b then q :: below a b else below a b:=by
 unfold below;rw [List.filter_cons];simp
theorem zk {ms:CM} (g:CM.Ok ms) (b:Nat):below ms (b+1)=below ms b ++ (match CM.get ms b with|none=> []|some c=> [(b,c)]):=by
 induction ms with
 |nil=>rfl
 |cons q f e=>
  have a:=List.pairwise_cons.1 g;rw [sw,sw,CM.lO];rcases Nat.lt_trichotomy q.1 b with h|h|h
  .rw [aE (by omega),aE h,aA (by omega),e a.2];rfl
  .rw [aE (by omega),aA (by omega),aE h,oA (ms:=f) (b:=b+1) (λx d=>by have:=a.1 x d;omega),oA (ms:=f) (b:=b) (λx d=>by have:=a.1 x d;omega)];obtain⟨i,j⟩:=q;subst h;rfl
  .rw [aA (by omega),aA (by omega),aA (by omega),e a.2]
theorem sx {ms:CM} (a:CM.Ok ms) {b:Nat} (h:CM.get ms b=none):below ms (b+1)=below ms b:=by rw [zk a,h,List.append_nil]
theorem sy {ms:CM} (a:CM.Ok ms) {b:Nat} {c:List Int} (h:CM.get ms b=some c):below ms (b+1)=below ms b ++ [(b,c)]:=by rw [zk a,h]
theorem sA (ms:CM):below ms 0= []:=oA (λ_ _=>by omega)
theorem lH (a:Option Addr) (n c:Nat) (l:List Int) (w:World) (t:n<=140737488355328) (q:Src w a n l):
  Calls prog 97 #[.slice a n c] w λe w'=>∃g,e= .returned (.slice (some (aD g 0)) n n)/\w.heap.size<=g/\ay w' 5 g n (bs l)/\bW w w':=by
 obtain⟨r,j,gv,dr,ec⟩:=info_parts fW;have H:=yh q;go_in;go_wp2_with (at_make;refine wpList_make_full _ rfl _ _ 36 rfl w.heap.size 5 r (.int .u8 0) 1 underlying36 j gv dr _ _ _ _ n rfl rfl ?c1 ?c2 ?c3 ?c4 ?c5 ?_);case c1=>rfl
 case c2=>rfl
 case c3=>rw [ec];omega
 case c4=>unfold maxLen;omega
 case c5=>exact bP _
 intro w1 az aO;have p:=lJ az;have b:=(bi _ w).grown aO (bP _) (by intro k d;cases d);have i:=p.full (by simp [bs]);have ed:=H.o.later b;have m:=H.o.1;obtain⟨s,bC,f,d,_⟩:=xX w1 3 (some (aD w.heap.size 0)) w.heap.size 0 n n a n c (bs (List.replicate n 0)) l i ed (λ_=>rfl) (by simp [bs]);have aW:=b.trans (d.below (λk h=>by omega) b.size);have fb:ay s 5 w.heap.size n (bs l):=by
  have e:splice (bs (List.replicate n 0)) 0 (bs (l.take n))=bs l:=by
   rw [nh (by omega)];simp [splice,bs];omega
  rw [e] at f;have:=ay.xp f (by simp [bs,maxLen];omega);simpa [bs,m] using this
 go_wp2;go_ret;exact⟨w.heap.size,rfl,bP _,fb,aW⟩
structure cu (w:World) (F:Nat->Prop) (r s:Nat) (S:DS) (gl cl:Nat) (ls:List Value) (pv:Value) (xs:List Value):Prop where
 fr:F r
 fl:F gl
 lt:∀k,F k->k<w.heap.size
 dj:w.heap[r]? =some (.cells (bG (.slice (some ⟨gl,0,none⟩) s cl) pv S.fuse S.life S.reads S.writes S.flushes S.refused) 67 (0,0))
 last:ay w 36 gl cl ls
 J6:ls.length=s
 zl:∀k,k<s->∃g c,ls[k]? =some (.slice (some (aD g 0)) 512 c)/\F g/\ay w 5 g c (bs (bI S.im k))
 db:w.ownsRow 0 120 2 pv S.puts.length xs
 Pe:∀g,pv.ownBlock=some g->F g
 puts:∀i (hi:i<S.puts.length),∃g c,xs[2*i]? =some (iV ((S.puts[i].1:Nat):Int))/\xs[2*i+1]? =some (.slice (some (aD g 0)) 512 c)/\F g/\ay w 5 g c (bs S.puts[i].2)
 ok:S.Ok s
def aB (w:World) (F:Nat->Prop) (r s:Nat) (S:DS):Prop:=∃gl cl ls pv xs,cu w F r s S gl cl ls pv xs
theorem aC (h:w.ownsRow base e size v n xs) (d:∀g,v.ownBlock=some g->w'.heap[g]? =w.heap[g]?):w'.ownsRow base e size v n xs:=by
 obtain⟨b,h|⟨g,a,cur,rfl,f,sd,c⟩⟩:=h
 .exact⟨b, .inl h⟩
 .exact⟨b, .inr ⟨g,a,cur,rfl,f,(d g rfl).trans sd,c⟩⟩
theorem cu.agree {r:Nat} {l:Value} (h:cu w F r s S gl cl ls l xs) (o:w.heap.size<=w'.heap.size) (a:∀k,F k->w'.heap[k]? =w.heap[k]?):cu w' F r s S gl cl ls l xs:=by
 refine⟨h.fr,h.fl,λk j=>iP (h.lt k j) o,(a r h.fr).trans h.dj,h.last.agree (a gl h.fl),h.J6,λk j=>?_,aC h.db (λg e=>a g (h.Pe g e)),h.Pe,λi n=>?_,h.ok⟩
 .obtain⟨g,c,f,b,d⟩:=h.zl k j;exact⟨g,c,f,b,d.agree (a g b)⟩
 .obtain⟨g,c,f,b,d,m⟩:=h.puts i n;exact⟨g,c,f,b,d,m.agree (a g d)⟩
theorem aB.lt {r:Nat} (h:aB w F r s S):∀k,F k->k<w.heap.size:=by obtain⟨b,a,c,d,xs,h⟩:=h;exact h.lt
theorem aB.ok {r:Nat} (h:aB w F r s S):S.Ok s:=by obtain⟨b,a,c,d,xs,h⟩:=h;exact h.ok
theorem aB.au {r:Nat} (h:aB w F r s S) (k:aa G w w') (hd:∀k,F k->¬G k):aB w' F r s S:=by
 obtain⟨c,b,d,e,xs,h⟩:=h;exact⟨c,b,d,e,xs,h.agree k.size (λj a=>k.block j (h.lt j a) (hd j a))⟩
theorem cu.mono {r:Nat} {j:Value} (h:cu w F r s S gl cl ls j xs) (a:∀k,F k->G k) (o:∀k,G k->k<w.heap.size):cu w G r s S gl cl ls j xs:=
   ⟨a _ h.fr,a _ h.fl,o,h.dj,h.last,h.J6,λk n=>by obtain⟨g,c,b,d,f⟩:=h.zl k n;exact⟨g,c,b,a _ d,f⟩,h.db,λg e=>a _ (h.Pe g e),λi m=>by
  obtain⟨g,c,b,d,f,l⟩:=h.puts i m;exact⟨g,c,b,d,a _ f,l⟩,h.ok⟩
theorem dR {i:Nat×Nat} (h:w.ownsRow base e size v n xs) (b:v.ownBlock=some g) (k:w.heap[q]? =some (.cells cur e' i)) (j:e'≠e):g≠q:=by
 obtain⟨_,⟨rfl,_⟩|⟨l,d,c,rfl,_,a,_⟩⟩:=h
 .simp [Value.ownBlock] at b
 .simp [Value.ownBlock] at b;intro f;rw [b,f,k] at a;simp at a;exact j a.2.1
theorem cu.ni {r:Nat} {S':DS} {l:Value} (h:cu w F r s S gl cl ls l xs) (a:aa (λk=>k=r) w w')
    (p:w'.heap[r]? =some (.cells (bG (.slice (some ⟨gl,0,none⟩) s cl) l S'.fuse S'.life S'.reads S'.writes S'.flushes S'.refused) 67 (0,0))) (m:S'.im=S.im) (j:S'.puts=S.puts) (o: -1<=S'.fuse/\S'.fuse<=9223372036854775807):
  cu w' F r s S' gl cl ls l xs:=by
 refine⟨h.fr,h.fl,λk q=>iP (h.lt k q) a.size,p,h.last.other a h.dj (by decide),h.J6,λk xq=>?_,?_,h.Pe,?_,⟨?_,h.ok.lo,h.ok.hi,?_,o⟩⟩
 .obtain⟨g,c,b,d,f⟩:=h.zl k xq;rw [m];exact⟨g,c,b,d,f.other a h.dj (by decide)⟩
 .rw [j];exact aC h.db (λg e=>a.block g (h.lt g (h.Pe g e)) (dR h.db e h.dj (by decide)))
 .rw [j];intro i t;obtain⟨g,c,b,d,f,n⟩:=h.puts i t;exact⟨g,c,b,d,f,n.other a h.dj (by decide)⟩
 .rw [m];exact h.ok.len
 .rw [j];exact h.ok.puts
theorem cu.set {r:Nat} {a:Value} (h:cu w F r s S gl cl ls a xs) (i:Nat) (v:Value):
    (w.setCell ⟨r,i,none⟩ v).heap[r]? =some (.cells ((bG (.slice (some ⟨gl,0,none⟩) s cl) a S.fuse S.life S.reads S.writes S.flushes S.refused).setIfInBounds i v) 67 (0,0))/\aa (λk=>k=r) w (w.setCell ⟨r,i,none⟩ v):=
   ⟨heap_setCell_same _ _ _ _ _ _ h.dj,aa.setCell (F:=λk=>k=r) w (p:=(aD r i)) rfl v⟩
theorem cu.refused {r:Nat} {a:Value} (h:cu w F r s S gl cl ls a xs):
  cu (w.setCell ⟨r,7,none⟩ (.int .i64 (wrap64 (S.refused+1)))) F r s S.refuse gl cl ls a xs:=
 h.ni (h.set 7 _).2 ((h.set 7 _).1.trans (by simp [bG,DS.refuse])) rfl rfl h.ok.fuse
theorem mv {r:Nat} (h:aB w F r s S):
  Calls prog 11 #[pQ r] w λe w'=>e= .returned (iV s)/\w'=w:=by
 obtain⟨c,b,d,f,xs,h⟩:=h;have a:=aL h.dj;go_in;go_wp2;go_ret;exact⟨rfl,rfl⟩
theorem j3 {r:Nat} (h:aB w F r s S):
  Calls prog 36 #[pQ r] w λe w'=>e= .returned (.bool (S.fuse == 0))/\w'=w:=by
 obtain⟨c,b,d,f,xs,h⟩:=h;have a:=bH h.dj;go_in;go_wp2;go_ret;exact⟨rfl,rfl⟩
theorem nE {r:Nat} (h:aB w F r s S):
  Calls prog 23 #[pQ r] w λe w'=>e= .returned (iV S.life)/\w'=w:=by
 obtain⟨c,b,d,f,xs,h⟩:=h;have a:=fI h.dj;go_in;go_wp2;go_ret;exact⟨rfl,rfl⟩
theorem zm {r:Nat} (h:aB w F r s S):
  Calls prog 62 #[pQ r] w λe w'=>e= .returned (iV (wrap64 (S.life+1)))/\aB w' F r s S.take/\aa F w w':=by
 obtain⟨b,a,d,f,xs,h⟩:=h;have g:=fI h.dj;have i:=ae h.dj 3;have c:aB (w.setCell ⟨r,3,none⟩ (.int .i64 (wrap64 (S.life+1)))) F r s S.take/\aa F w (w.setCell ⟨r,3,none⟩ (.int .i64 (wrap64 (S.life+1)))):=
    ⟨⟨b,a,d,f,xs,h.ni (h.set 3 _).2 ((h.set 3 _).1.trans (by simp [bG,DS.take])) rfl rfl h.ok.fuse⟩,aa.setCell w h.fr _⟩
 go_in;go_wp2;go_ret;exact⟨rfl,(yh c).out⟩
theorem Bw (w:World) (b o:Nat) (v u:Value):(w.setCell ⟨b,o,none⟩ v).setCell ⟨b,o,none⟩ u=w.setCell (aD b o) u:=by
 unfold World.setCell;congr 1;apply Array.ext_getElem?;intro i;simp only [Array.getElem?_modify];by_cases e:b=i
 .subst e;simp only [if_true];cases w.heap[b]? with
  |none=>rfl
  |some a=>cases a <;> simp
 .simp [e]
theorem Q7 {r:Nat} (h:aB w F r s S) (a:Int) (p:a<=9223372036854775807):
  Calls prog 27 #[pQ r,iV a] w λe w'=>e= .returned (.tuple #[])/\aB w' F r s (S.lay a)/\aa F w w':=by
 obtain⟨g,f,i,j,xs,h⟩:=h;have m:=bH h.dj;have n:=ae h.dj 2;by_cases b:S.fuse=0
 .have k:(S.fuse == 0)=true:=by simp [b]
  have c:aB w F r s (S.lay a):=by simp only [DS.lay,b,if_true];exact⟨g,f,i,j,xs,h⟩
  go_in;go_wp2;exact bodyPost_ret (results_none rfl _ _ _) rfl ⟨rfl,(yh c).out,aa.refl _ _⟩
 .have k:(S.fuse == 0)=false:=by simp [b]
  have c:∀v,v=max a (-1)->aB (w.setCell ⟨r,2,none⟩ (.int .i64 v)) F r s (S.lay a)/\aa F w (w.setCell ⟨r,2,none⟩ (.int .i64 v)):=λv l=>by
   subst l;simp only [DS.lay,b,if_false];exact⟨⟨g,f,i,j,xs,h.ni (h.set 2 _).2 ((h.set 2 _).1.trans (by simp [bG])) rfl rfl (by simp only;omega)⟩,aa.setCell w h.fr _⟩
  have Mb:=λv u=>Bw w r 2 v u;have d:=yh c;by_cases aid:a<0
  .go_in;go_wp2
   go_end0
   exact⟨rfl,d.o (-1) (by omega)⟩
  .go_in;go_wp2
   go_end0
   exact⟨rfl,d.o a (by omega)⟩
theorem zn (r:Nat) (a:Int) (w:World) (b:w.cell? (aD r 2)=some (iV a)) (c:w.frozen? (aD r 2)=false) (d: -1<=a):
  Calls prog 115 #[pQ r] w λe w'=>e= .returned (.tuple #[])/\w'=if 0<a then w.setCell ⟨r,2,none⟩ (.int .i64 (wrap64 (a-1))) else w:=by
 by_cases h:0<a
 .go_in;go_wp2
  go_end0
  exact⟨rfl,rfl⟩
 .go_in;go_wp2
  go_end0
  exact⟨rfl,rfl⟩
theorem cu.yo {r:Nat} {b:Value} (h:cu w F r s S gl cl ls b xs):
  cu (if 0<S.fuse then w.setCell ⟨r,2,none⟩ (.int .i64 (wrap64 (S.fuse-1))) else w) F r s S.fY gl cl ls b xs/\aa F w (if 0<S.fuse then w.setCell ⟨r,2,none⟩ (.int .i64 (wrap64 (S.fuse-1))) else w):=by
 have c:=h.ok.fuse;by_cases a:0<S.fuse
 .rw [aE a];have e:wrap64 (S.fuse-1)=S.fuse-1:=by unfold wrap64;omega
  refine⟨h.ni (h.set 2 _).2 ((h.set 2 _).1.trans ?_) rfl rfl ?_,aa.setCell w h.fr _⟩
  .rw [e];simp [bG,DS.fY,a]
  .simp only [DS.fY,aE a];omega
 .rw [aA a];have e:S.fY=S:=by simp [DS.fY,a]
  rw [e];exact⟨h,aa.refl _ _⟩
theorem J7 {r:Nat} (h:aB w F r s S):
  Calls prog 38 #[pQ r] w λe w'=>e= .returned (.agg (dL S.reads S.writes S.flushes S.refused S.puts.length))/\bW w w':=by
 obtain⟨p,o,q,f,xs,h⟩:=h;have rE:=h.lt r h.fr;have wW:∃a c,f= .slice a S.puts.length c:=by
  obtain⟨_,⟨e,d⟩|⟨g,b,cur,e,_⟩⟩:=h.db
  .exact⟨none,0,by rw [e,d]⟩
  .exact⟨_,_,e⟩
 obtain⟨a,c,rfl⟩:=wW;obtain⟨i,j,k,l,m,n⟩:=kQ (bD h.dj) (gz h.dj) (rU h.dj) (wG h.dj) (ri h.dj) (Dg h.dj);go_in;go_wp2;refine bodyPost_ret (v:= .agg (dL S.reads S.writes S.flushes S.refused S.puts.length)) (by simp [results,results38,go_sem,dL]) rfl ⟨rfl,?_⟩;exact((bi _ w).alloc (bP _) _).alloc (by simp) _
theorem fh (a b:List (Nat×List Int)) (k:Nat):ar (a ++ b) k=ar a k ++ ar b k:=by simp [ar]
theorem kH {puts:List (Nat×List Int)} (h:∀q∈puts,q.1≠k):ar puts k= []:=by
 unfold ar;rw [List.map_eq_nil_iff,List.filter_eq_nil_iff];intro q a;have:=h q a;simpa using this
theorem Q9 (f:i<S.puts.length) (e:S.puts[i].1=k) (g:∀j (a:j<S.puts.length),i<j->S.puts[j].1≠k):S.now k=S.puts[i].2:=by
 have b:S.puts=S.puts.take i ++ (S.puts[i] :: S.puts.drop (i+1)):=by
  rw [<-List.drop_eq_getElem_cons f,List.take_append_drop]
 have c:ar (S.puts.drop (i+1)) k= []:=kH (λq l=>by
  obtain⟨j,a,rfl⟩:=List.mem_iff_getElem.1 l;rw [List.getElem_drop];exact g _ (by simp at a;omega) (by omega))
 have d:ar S.puts k=ar (S.puts.take i) k ++ [S.puts[i].2]:=by
  conv=>lhs;rw [b]
  rw [fh,show S.puts[i] :: S.puts.drop (i+1)= [S.puts[i]] ++ S.puts.drop (i+1) from rfl,fh,c];simp [ar,e]
 unfold DS.now DS.gB;rw [d];simp [List.getD]
theorem Vs (h:∀j (a:j<S.puts.length),S.puts[j].1≠k):S.now k=bI S.im k:=by
 apply tj;apply kH;intro q b;obtain⟨j,a,rfl⟩:=List.mem_iff_getElem.1 b;exact h j a
theorem cu.form {r:Nat} {l:Value} (h:cu w F r s S gl cl ls l xs):
  ∃a c,l= .slice a S.puts.length c/\(0<S.puts.length->∃b,a=some (aD b 0)/\∀i (d:i<S.puts.length),∃g cg,w.cell? ⟨b,i*2,none⟩=some (iV ((S.puts[i].1:Nat):Int))/\w.cell? ⟨b,i*2+1,none⟩=some (.slice (some (aD g 0)) 512 cg)/\F g/\ay w 5 g cg (bs S.puts[i].2)):=by
 have f:=h.db;obtain⟨_,⟨e,t⟩|⟨b,m,cur,e,_⟩⟩:=h.db
 .exact⟨none,0,by rw [e,t],λh0=>by omega⟩
 .refine⟨_,_,e,λ_=>⟨b,rfl,λi d=>?_⟩⟩;obtain⟨g,cg,n,o,p,q⟩:=h.puts i d;have j:=f.cells (g:=b) (by rw [e];rfl) _ _ n;have k:=f.cells (g:=b) (by rw [e];rfl) _ _ o;rw [aK,Nat.zero_add] at j k;exact⟨g,cg,by rw [Nat.mul_comm];exact j,by rw [Nat.mul_comm];exact k,p,q⟩
theorem jF {r:Nat} (h:aB w F r s S) (k:Nat) (y:k<s) (aT:S.puts.length<=5000000000000):
  Calls prog 40 #[pQ r,iV (k:Int)] w λe w'=>∃g c,e= .returned (.slice (some (aD g 0)) 512 c)/\F g/\ay w 5 g c (bs (S.now k))/\w'=w:=by
 obtain⟨E,D,H,J,xs,h⟩:=h;obtain⟨a,c,rfl,sB⟩:=h.form;have A:=aL h.dj;have C:=bD h.dj;obtain⟨v,cs,wQ,Ue,pi⟩:=h.zl k y;have u:=h.last.cell wQ;have l:=sB;have d:=pi;have eF:(k:Int)<(s:Int):=by omega
 clear h sB pi wQ;go_in;go_wp2;go_loopw [5] (λi wr=>∃j:Nat,j<=S.puts.length/\i=iV ((j:Int)-1)/\wr=w/\∀i (b:i<S.puts.length),j<=i->S.puts[i].1≠k) (λi _=>(intOf i+1).toNat);case atStart=>exact⟨S.puts.length,bP _,rfl,rfl,λi b h=>by omega⟩
 case round=>
  obtain⟨j,n,rfl,rfl,iZ⟩:=hrel;have nS:=iZ;clear iZ;cases j with
  |zero=>
   rw [<-(Vs (S:=S) (k:=k) (λj n=>nS j n (by omega)))] at d;go_wp2;go_ret;exact⟨v,cs,rfl,Ue,d,rfl⟩
  |succ j=>
   obtain⟨G,rfl,p⟩:=l (by omega);obtain⟨g,t,z,I,x,q⟩:=p j (by omega);have m:=q;clear p q;by_cases f:S.puts[j].1=k
   .have o:=Q9 (S:=S) (by omega) f (λi b h=>nS i b (by omega));rw [f] at z;rw [<-o] at m;clear o;go_wp2;go_ret;exact⟨g,t,rfl,x,m,rfl⟩
   .have dG:(((S.puts[j].1:Nat):Int) == (k:Int))=false:=(by rw [Bool.eq_false_iff,ne_eq,beq_iff_eq];omega);have J8:∀i (b:i<S.puts.length),j<=i->S.puts[i].1≠k:=λi b h=>by
     by_cases e:i=j
     .subst e;exact f
     .exact nS i b (by omega)
    have Zg:=J8;clear J8 nS f m;go_wp2;go_roundw;case rel=>exact⟨j,by omega,by go_num,trivial,Zg⟩
    case measure=>simp [intOf]
theorem Mc:(prog.info? 120).map (λi=>(i.zero,i.size,i.bytes))=some (some (.agg #[iV 0, .slice none 0 0]),2,32):=by kernel_rfl
theorem cu.wrote {r:Nat} {x:Value} (h:cu w F r s S gl cl ls x xs) (K:k<s) (L:l.length=512) {o:Obj}
    (aq:bW w w1) (H:w.heap.size<=g) (D:ay w1 5 g cg (bs l))
    (az:w2.ownsRow 0 120 2 (.slice (some (aD g2 0)) (S.puts.length+1) bZ) (S.puts.length+1) (xs ++ [iV (k:Int), .slice (some (aD g 0)) 512 cg]))
    (aO:(w1.alloc o).grownBy w2 x.ownBlock) (ic:x.ownBlock=some g2\/g2=w1.heap.size+1):
  w2.heap[r]? =w.heap[r]?/\cu (w2.setCell ⟨r,1,none⟩ (.slice (some ⟨g2,0,none⟩) (S.puts.length+1) bZ)) (more F w (w2.setCell ⟨r,1,none⟩ (.slice (some ⟨g2,0,none⟩) (S.puts.length+1) bZ))) r s (S.put k l) gl cl ls (.slice (some (aD g2 0)) (S.puts.length+1) bZ) (xs ++ [iV (k:Int), .slice (some (aD g 0)) 512 cg])/\
   aa F w (w2.setCell ⟨r,1,none⟩ (.slice (some ⟨g2,0,none⟩) (S.puts.length+1) bZ)):=by
 have aW:=aq.alloc aq.size o;have rY:=aq.size;have YA:(w1.alloc o).heap.size=w1.heap.size+1:=by simp
 have ju:=aO.size;have rE:=h.lt r h.fr;have f:=λb a u=>(aO.block b (by omega) u).trans (aW.block b a);have p:some r≠x.ownBlock:=λe=>dR h.db e.symm h.dj (by decide) rfl;have fb:=f r rE p;have Xw:∀(b:Nat) (cur:Array Value) (e:TypeId) (C:Nat×Nat),w.heap[b]? =some (Obj.cells cur e C)->e≠120->w2.heap[b]? =w.heap[b]? :=λb cur e C a G=>
  f b (kN.1 a).1 (λn=>dR h.db n.symm a G rfl)
 have acQ:(w2.setCell ⟨r,1,none⟩ (.slice (some ⟨g2,0,none⟩) (S.puts.length+1) bZ)).heap.size=w2.heap.size:=by simp [World.setCell]
 have d:∀b,b≠r->(w2.setCell ⟨r,1,none⟩ (.slice (some ⟨g2,0,none⟩) (S.puts.length+1) bZ)).heap[b]? =w2.heap[b]? :=λb a=>Below.heap_setCell _ _ _ _ a;have Md:∀b c A,ay w 5 b c A->ay (w2.setCell ⟨r,1,none⟩ (.slice (some ⟨g2,0,none⟩) (S.puts.length+1) bZ)) 5 b c A:=λb c A a=>by
  have dG:=a.ne h.dj (by decide);have eC:=a;obtain⟨cur,ie,_⟩:=eC;exact a.agree ((d b dG).trans (Xw b cur _ _ ie (by decide)))
 have UF:=D.lt;have tO:g≠r:=by omega
 have Rc:g2<w2.heap.size:=by
  obtain⟨_,⟨e,_⟩|⟨t,_,cur,e,_,a,_⟩⟩:=az
  .cases e
  .cases e;exact(kN.1 a).1
 have aoT:g2≠r:=λe=>by
  rcases ic with m|m
  .rw [e] at m;exact p m.symm
  .omega
 refine⟨fb,⟨.inl h.fr, .inl h.fl,λb a=>?_,?_,?_,h.J6,λj J=>?_,?_,λb a=>?_,λi I=>?_,⟨h.ok.len,h.ok.lo,h.ok.hi,λq v=>?_,h.ok.fuse⟩⟩,?_⟩
 .rw [acQ];rcases a with a|a
  .have:=h.lt b a;omega
  .rw [acQ] at a;exact a.2
 .rw [heap_setCell_same _ _ _ _ _ _ (fb.trans h.dj)];simp [bG,DS.put]
 .have dG:=h.last.ne h.dj (by decide);have eC:=h.last;obtain⟨cur,ie,_⟩:=eC;exact h.last.agree ((d gl dG).trans (Xw gl cur _ _ ie (by decide)))
 .obtain⟨t,c',n,y,z⟩:=h.zl j J;exact⟨t,c',n, .inl y,Md _ _ _ z⟩
 .have:(S.put k l).puts.length=S.puts.length+1:=by simp [DS.put]
  rw [this];exact aC az (λb a=>d b (λe=>by simp [Value.ownBlock] at a;omega))
 .simp [Value.ownBlock] at a;subst a;rcases ic with m|m
  .exact .inl (h.Pe g2 m)
  .exact .inr ⟨by omega,by omega⟩
 .have Fb:=h.db.1;by_cases nj:i<S.puts.length
  .obtain⟨t,c',n,y,z,E⟩:=h.puts i nj;refine⟨t,c',?_,?_, .inl z,?_⟩
   .rw [List.getElem?_append_left (by omega),n];simp [DS.put,List.getElem_append_left nj]
   .rw [List.getElem?_append_left (by omega),y]
   .simp only [DS.put,List.getElem_append_left nj];exact Md _ _ _ E
  .have Dm:i=S.puts.length:=(by simp [DS.put] at I;omega);subst Dm;refine⟨g,cg,?_,?_, .inr ⟨H,by omega⟩,?_⟩
   .rw [List.getElem?_append_right (by omega),show 2*S.puts.length-xs.length=0 by omega];simp [DS.put]
   .rw [List.getElem?_append_right (by omega),show 2*S.puts.length+1-xs.length=1 by omega];simp
   .have:ay (w2.setCell ⟨r,1,none⟩ (.slice (some ⟨g2,0,none⟩) (S.puts.length+1) bZ)) 5 g cg (bs l):=by
     refine D.agree ((d g tO).trans ((aO.block g (by omega) (λe=>?_)).trans (Below.heap_alloc _ _ _ UF)));have:=h.lt _ (h.Pe g e.symm);omega
    simpa [DS.put] using this
 .simp only [DS.put,List.mem_append,List.mem_singleton] at v;rcases v with v|rfl
  .exact h.ok.puts q v
  .exact⟨K,L⟩
 .refine⟨aO.os.trans aW.os,aO.tape.trans aW.tape,aO.output.trans aW.output,by omega,λb a u=>?_⟩;exact(d b (λe=>u (e▸h.fr))).trans (f b a (λe=>u (h.Pe b e.symm)))
def TwR (w:World) (l:List Int) (v:Value) (w':World):Prop:=∃g,v= .slice (some (aD g 0)) 512 512/\w.heap.size<=g/\ay w' 5 g 512 (bs l)/\bW w w'
theorem u9 {P:Program} {b:Array Oper} {o:Oper} {a:Act} {K:Act->World->Prop} {Q:Exit->Act->World->Prop} {E:Prop} (FQ:o.guard=none) (f:FuncId) (args:Array Value)
    (IQ:(execOp a.eval o).run P w= .ok (.enter f args) w) (R:Value->World->Prop) (c:Calls P f args w λe w'=>∃v,e= .returned v/\R v w') (h:∀v w',R v w'->K (a.put o.dst v) w'):
  if Region.wanted o (yielded b a.tmps)=true then Oper.wp P o a w K Q else E:=by
 have g:Region.wanted o (yielded b a.tmps)=true:=by simp [Region.wanted,FQ]
 rw [aE g];unfold Oper.wp;rw [IQ,Oper.upon_enter];refine c.mono ?_;rintro e w' ⟨v,rfl,d⟩;exact h v w' d
theorem Gm {r:Nat} (h:aB w F r s S) (b:Int) (a:Option Addr) (n c:Nat) (i:S.fuse=0):
  Calls prog 63 #[pQ r,iV b, .slice a n c] w λe w'=>e= .returned (iV 3)/\w'=w:=by
 obtain⟨g,f,j,k,xs,h⟩:=h;have d:=bH h.dj;go_in;go_wp2;go_ret;exact⟨rfl,rfl⟩
theorem DY {r:Nat} (h:aB w F r s S) (a:Int) (k:Option Addr) (n c:Nat) (m:S.fuse≠0) (d:a<0\/(s:Int)<=a):
  Calls prog 63 #[pQ r,iV a, .slice k n c] w λe w'=>e= .returned (iV 11)/\aB w' F r s S.refuse/\aa F w w':=by
 obtain⟨g,f,i,j,xs,h⟩:=h;have q:=aL h.dj;have t:=bH h.dj;have u:=ri h.dj;have v:=ae h.dj 7;have x:(S.fuse == 0)=false:=by simp [m]
 have b:=yh (aF h.refused (aa.setCell (F:=F) w (p:=(aD r 7)) h.fr (iV (wrap64 (S.refused+1)))));rcases d with d|d
 .go_in;go_wp2;go_ret;exact⟨rfl,⟨g,f,i,j,xs,b.o.1⟩,b.o.2⟩
 .have l:¬a<0:=by omega
  go_in;go_wp2;go_ret;exact⟨rfl,⟨g,f,i,j,xs,b.o.1⟩,b.o.2⟩
theorem By {r:Nat} (h:aB w F r s S) (k:Nat) (b:Option Addr) (n c:Nat) (g:S.fuse≠0) (v:k<s) (x:n≠512):
  Calls prog 63 #[pQ r,iV (k:Int), .slice b n c] w λe w'=>e= .returned (iV 2)/\aB w' F r s S.refuse/\aa F w w':=by
 obtain⟨f,d,i,j,xs,h⟩:=h;have l:=aL h.dj;have m:=bH h.dj;have q:=ri h.dj;have t:=ae h.dj 7;have u:(S.fuse == 0)=false:=by simp [g]
 have a:=yh (aF h.refused (aa.setCell (F:=F) w (p:=(aD r 7)) h.fr (iV (wrap64 (S.refused+1)))));have dG:((n:Int) != 512)=true:=by rw [fT];omega
 have wH:¬(k:Int)<0:=by omega
 have eH:¬(s:Int)<=(k:Int):=by omega
 go_in;go_wp2;go_ret;exact⟨rfl,⟨f,d,i,j,xs,a.o.1⟩,a.o.2⟩
theorem cu.Jg {r:Nat} {a:Value} (h:cu w F r s S gl cl ls a xs):
  cu (w.setCell ⟨r,5,none⟩ (.int .i64 (wrap64 (S.writes+1)))) F r s S.wrote gl cl ls a xs:=
 h.ni (h.set 5 _).2 ((h.set 5 _).1.trans (by simp [bG,DS.wrote])) rfl rfl h.ok.fuse
theorem J9 {a:World} {r:Nat} {g:Value} (f:F r) (h:cu a (more F w a) r s S gl cl ls g xs) (l:aa F w a):
  a.cell? (aD r 5)=some (iV S.writes)/\a.frozen? (aD r 5)=false/\
  Calls prog 115 #[pQ r] (a.setCell ⟨r,5,none⟩ (.int .i64 (wrap64 (S.writes+1)))) λe w'=>e= .returned (.tuple #[])/\aB w' (more F w w') r s S.wrote.fY/\aa F w w':=by
 have b:=h.Jg;have dV:aa F w (a.setCell ⟨r,5,none⟩ (.int .i64 (wrap64 (S.writes+1)))):=l.trans (aa.setCell (F:=λk=>k=r) a (p:=(aD r 5)) rfl _) (λj d=> .inl (d▸f));refine⟨rU h.dj,ae h.dj 5,(zn r S.fuse _ (bH b.dj) (ae b.dj 2) b.ok.fuse.1).mono ?_⟩;rintro e w' ⟨rfl,rfl⟩;obtain⟨i,_⟩:=b.yo;have dX:aa (λk=>k=r) (a.setCell ⟨r,5,none⟩ (.int .i64 (wrap64 (S.writes+1)))) (if 0<S.fuse then (a.setCell ⟨r,5,none⟩ (.int .i64 (wrap64 (S.writes+1)))).setCell ⟨r,2,none⟩ (.int .i64 (wrap64 (S.fuse-1))) else (a.setCell ⟨r,5,none⟩ (.int .i64 (wrap64 (S.writes+1))))):=by
  split
  .exact aa.setCell (F:=λk=>k=r) _ (p:=(aD r 2)) rfl _
  .exact aa.refl _ _
 have Xx:(if 0<S.fuse then (a.setCell ⟨r,5,none⟩ (.int .i64 (wrap64 (S.writes+1)))).setCell ⟨r,2,none⟩ (.int .i64 (wrap64 (S.fuse-1))) else (a.setCell ⟨r,5,none⟩ (.int .i64 (wrap64 (S.writes+1))))).heap.size=a.heap.size:=by split <;> simp [World.setCell]
 refine⟨rfl,⟨gl,cl,ls,g,xs,cu.mono i (B2 (by rw [Xx];exact bP _)) (λk xq=>?_)⟩,dV.trans dX (λj d=> .inl (d▸f))⟩;rw [Xx];rcases xq with c|c
 .exact h.lt k (.inl c)
 .rw [Xx] at c;exact c.2
set_option maxRecDepth 100000 in
theorem NC {r:Nat} (hd:aB w F r s S) (k:Nat) (p:k<s) (m:S.fuse≠0) (aT:S.puts.length+1<=4000000000000)
    (x:Addr) (c:Nat) (l:List Int) (fJ:Src w (some x) 512 l):
  Calls prog 63 #[pQ r,iV (k:Int), .slice (some x) 512 c] w λe w'=>e= .returned (iV 0)/\aB w' (more F w w') r s ((S.put k l).wrote.fY)/\aa F w w':=by
 obtain⟨K,E,P,Q,xs,h⟩:=hd;obtain⟨u,rt,gv,dr,ec⟩:=info_parts Mc;obtain⟨a,ca,rfl,_⟩:=h.form;have z:=aL h.dj;have A:=bD h.dj;have C:=bH h.dj;have L:(S.fuse == 0)=false:=by simp [m]
 have wH:¬(k:Int)<0:=by omega
 have eH:¬(s:Int)<=(k:Int):=by omega
 have rE:=h.lt r h.fr;have H:=yh h;have du:∀wx:World,wx.heap[r]? =w.heap[r]?->wx.cell? (aD r 1)=some (.slice a S.puts.length ca):=λwx e=>bD (e.trans H.o.dj);have pS:=yh du;go_in;go_wp2_with fail;have Me:Calls prog 97 #[.slice (some x) 512 c] w.drew λe w'=>∃v,e= .returned v/\TwR w l v w':=
    (lH (some x) 512 c l w.drew (by omega) (yh fJ).out).mono (by rintro e w' ⟨g,rfl,i,j,b⟩;exact⟨_,rfl,g,rfl,i,j,⟨b.os,b.tape,b.output,b.size,b.block⟩⟩)
 go_region_law
  (first
   |(refine u9 (by rfl) 97 #[.slice (some x) 512 c] (by simp [go_sem]) (TwR w l) (yh Me).out ?_;rintro _ w1 ⟨g,rfl,n,q,aq⟩;have lG:w1.heap[r]? =w.heap[r]? :=aq.block r rE;have M:=pS.o w1 lG;have N:=λo=>pS.o (w1.alloc o) ((Below.heap_alloc w1 o r (iP rE aq.size)).trans lG))
   |(refine step_append_lies _ (by rfl) _ _ _ (by rfl) 0 120 u _ 2 32 underlying63 rt gv dr ec rfl (by omega) (.slice a S.puts.length ca) S.puts.length xs (by rfl) (aC H.o.db (λg e=>(Below.heap_alloc w1 _ _ (iP (H.o.lt g (H.o.Pe g e)) aq.size)).trans (aq.block g (H.o.lt g (H.o.Pe g e)))))
       (aD w1.heap.size 0) 1 1 [iV (k:Int), .slice (some (aD g 0)) 512 512] (by rfl) (by rfl) (World.news_of_block (cs:= #[iV (k:Int), .slice (some (aD g 0)) 512 512]) (t:=120) (fr:=(0,0)) (heap_alloc_new w1 _)) (by simp [Value.oneCell']) (by omega) (by unfold maxLen;omega) (by omega) (dU _) (w1.heap.size+1) (by simp) ?_;intro J bZ y fE jU uL oS;obtain⟨fb,d,aV⟩:=H.o.wrote p fJ.1 aq n q fE jU uL;have O:=pS.o y fb;have G:=ae (fb.trans H.o.dj) 1))
 all_goals
  obtain⟨D,I,f⟩:=J9 H.o.fr d aV;go_wp2_with (go_at_call 115;refine f.mono ?_;rintro e w5 ⟨rfl,jy,dX⟩);go_ret;exact⟨rfl,jy,dX⟩
section
theorem pT:(prog.info? 166).map (λi=>(i.zero,i.size,i.bytes))=some (some (.agg #[iV 0, .slice none 0 0]),2,32):=by kernel_rfl
theorem Re (w:World) (a:Option Addr) (n c b c':Nat):(binOp .eql 36 (.slice a n c) (.slice none b c')).run prog w= .ok (.bool a.isNone) w:=Lib.run_eql_slice_nil w _ _ a n c b c' underlying36
structure PL (w:World) (X:Nat->Prop) (v:Value) (ps:List (Nat×List Int)) (xs:List Value):Prop where
 own:w.ownsRow 0 166 2 v ps.length xs
 row:∀g,v.ownBlock=some g->X g
 put:∀i (hi:i<ps.length),∃g c,xs[2*i]? =some (iV ((ps[i].1:Nat):Int))/\xs[2*i+1]? =some (.slice (some (aD g 0)) 512 c)/\X g/\ay w 5 g c (bs ps[i].2)
 len:∀q∈ps,q.2.length=512/\Bytes q.2
def Pl (w:World) (X:Nat->Prop) (v:Value) (ps:List (Nat×List Int)):Prop:=∃xs,PL w X v ps xs
theorem pU {B:Nat} {m:Nat} {v:Value} {xs:List Value} (h:W.ownsRow B e m v n xs) (a:v.ownBlock=some g):g<W.heap.size:=by
 obtain⟨_,⟨rfl,_⟩|⟨d,b,cur,rfl,_,c,_⟩⟩:=h
 .simp [Value.ownBlock] at a
 .simp [Value.ownBlock] at a;subst a;exact(kN.1 c).1
section
variable {w w':World} {X Y G:Nat->Prop} {v:Value} {ps:List (Nat×List Int)} {xs:List Value}
theorem PL.form (h:PL w X v ps xs):
  ∃a c,v= .slice a ps.length c/\(0<ps.length->∃b,a=some (aD b 0)/\∀i (d:i<ps.length),∃g cg,w.cell? ⟨b,i*2,none⟩=some (iV ((ps[i].1:Nat):Int))/\w.cell? ⟨b,i*2+1,none⟩=some (.slice (some (aD g 0)) 512 cg)/\X g/\ay w 5 g cg (bs ps[i].2)):=by
 have f:=h.own;obtain⟨_,⟨e,q⟩|⟨b,l,cur,e,_⟩⟩:=h.own
 .exact⟨none,0,by rw [e,q],λh0=>by omega⟩
 .refine⟨_,_,e,λ_=>⟨b,rfl,λi d=>?_⟩⟩;obtain⟨g,cg,m,n,o,p⟩:=h.put i d;have j:=f.cells (g:=b) (by rw [e];rfl) _ _ m;have k:=f.cells (g:=b) (by rw [e];rfl) _ _ n;rw [aK,Nat.zero_add] at j k;exact⟨g,cg,by rw [Nat.mul_comm];exact j,by rw [Nat.mul_comm];exact k,o,p⟩
theorem PL.au (h:PL w X v ps xs) (d:aa G w w') (l:∀g,v.ownBlock=some g->¬G g) (hd:∀g c ys,X g->ay w 5 g c ys->¬G g):PL w' X v ps xs:=by
 refine⟨aC h.own (λg e=>d.block g (pU h.own e) (l g e)),h.row,λi k=>?_,h.len⟩;obtain⟨g,c,f,j,b,a⟩:=h.put i k;exact⟨g,c,f,j,b,a.agree (d.block g a.lt (hd g _ _ b a))⟩
theorem PL.mono (h:PL w X v ps xs) (a:∀g,X g->Y g):PL w Y v ps xs:=
   ⟨h.own,λg e=>a _ (h.row g e),λi k=>by obtain⟨g,c,b,d,f,j⟩:=h.put i k;exact⟨g,c,b,d,a _ f,j⟩,h.len⟩
theorem Pl.au (h:Pl w X v ps) (a:aa G w w') (b:∀g,v.ownBlock=some g->¬G g) (hd:∀g c ys,X g->ay w 5 g c ys->¬G g):Pl w' X v ps:=by
 obtain⟨xs,h⟩:=h;exact⟨xs,h.au a b hd⟩
theorem Pl.later (h:Pl w X v ps) (a:bW w w'):Pl w' X v ps:=h.au (aa.ah (λ_=>False) a) (λ_ _ h=>h) (λ_ _ _ _ _ h=>h)
theorem Pl.mono (h:Pl w X v ps) (a:∀g,X g->Y g):Pl w Y v ps:=by obtain⟨xs,h⟩:=h;exact⟨xs,h.mono a⟩
theorem Pl.row (h:Pl w X v ps):∀g,v.ownBlock=some g->X g:=by obtain⟨xs,h⟩:=h;exact h.row
theorem Pl.rlt (h:Pl w X v ps):∀g,v.ownBlock=some g->g<w.heap.size:=by obtain⟨xs,h⟩:=h;exact λg e=>pU h.own e
theorem Pl.len (h:Pl w X v ps):∀q∈ps,q.2.length=512/\Bytes q.2:=by obtain⟨xs,h⟩:=h;exact h.len
theorem Pl.form (h:Pl w X v ps):
  ∃a c,v= .slice a ps.length c/\(0<ps.length->∃gp,a=some (aD gp 0)/\∀i (hi:i<ps.length),∃g cg,w.cell? ⟨gp,i*2,none⟩=some (iV ((ps[i].1:Nat):Int))/\w.cell? ⟨gp,i*2+1,none⟩=some (.slice (some (aD g 0)) 512 cg)/\X g/\ay w 5 g cg (bs ps[i].2)):=by obtain⟨xs,h⟩:=h;exact h.form
theorem Pl.nil (w:World) (X:Nat->Prop):Pl w X (.slice none 0 0) []:=⟨[],⟨rfl, .inl ⟨rfl,rfl⟩⟩,λg e=>by simp [Value.ownBlock] at e,λi a=>by simp at a,λq b=>by cases b⟩
theorem Pl.ne (h:Pl w X v ps) (d:v.ownBlock=some g) {a:Nat×Nat} (c:w.heap[q]? =some (.cells cur e' a)) (b:e'≠166):g≠q:=by
 obtain⟨xs,h⟩:=h;exact dR h.own d c b
theorem Pl.other (h:Pl w X v ps) {d:Nat×Nat} (a:w.heap[k]? =some (.cells cur e d)) (f:e≠166) (g:e≠5) (i:aa (λj=>j=k) w w'):Pl w' X v ps:=
 h.au i (λb m e=>h.ne m a f e) (λb n c _ l e=>l.ne a g e)
structure PV (w:World) (X:Nat->Prop) (v:Value) (ps:List (Nat×List Int)):Prop where
 form:∃a c,v= .slice a ps.length c/\(0<ps.length->∃gp o,a=some (aD gp o)/\X gp/\∀i (hi:i<ps.length),∃g cg,w.cell? ⟨gp,o+i*2,none⟩=some (iV ((ps[i].1:Nat):Int))/\w.cell? ⟨gp,o+i*2+1,none⟩=some (.slice (some (aD g 0)) 512 cg)/\X g/\ay w 5 g cg (bs ps[i].2))
 len:∀q∈ps,q.2.length=512/\Bytes q.2
theorem Pl.pv (h:Pl w X v ps):PV w X v ps:=by
 obtain⟨a,c,e,f⟩:=h.form;refine⟨⟨a,c,e,λh0=>?_⟩,h.len⟩;obtain⟨b,d,g⟩:=f h0;refine⟨b,0,d,h.row b (by rw [e,d];rfl),λi bm=>?_⟩;rw [Nat.zero_add];exact g i bm
theorem di (b:aa G w w') (c:¬G g) {u:Value} (a:w.cell? (aD g j)=some u):w'.cell? (aD g j)=some u:=by
 have bm:g<w.heap.size:=by
  apply Decidable.byContradiction;intro d;simp only [World.cell?] at a;rw [Array.getElem?_eq_none (by omega)] at a;cases a
 have:=b.block g bm c;simp only [World.cell?] at a⊢;rw [this];exact a
theorem PV.au (h:PV w X v ps) (d:aa G w w') (b:∀g,X g->¬G g):PV w' X v ps:=by
 obtain⟨⟨a,c,t,q⟩,s⟩:=h;refine⟨⟨a,c,t,λh0=>?_⟩,s⟩;obtain⟨l,o,p,e,r⟩:=q h0;refine⟨l,o,p,e,λi bm=>?_⟩;obtain⟨g,k,m,n,f,j⟩:=r i bm;exact⟨g,k,di d (b _ e) m,di d (b _ e) n,f,j.agree (d.block g j.lt (b _ f))⟩
theorem PV.later (h:PV w X v ps) (a:bW w w'):PV w' X v ps:=h.au (aa.ah (λ_=>False) a) (λ_ _ h=>h)
def Zh (w:World) (X:Nat->Prop) (o:Option (List Int)) (e:Ending):Prop:=
   (o=none/\e= .returned (.slice none 0 0))\/∃l g c,o=some l/\e= .returned (.slice (some (aD g 0)) 512 c)/\X g/\ay w 5 g c (bs l)
theorem qN (h:PV w X v ps) (k:Nat) (aT:ps.length<=5000000000000):
  Calls prog 134 #[v,iV (k:Int)] w λe w'=>Zh w X (fnd ps k) e/\w'=w:=by
 obtain⟨a,c,rfl,sB⟩:=h.form;go_in;go_wp2;go_loopw [5] (λi wr=>∃j:Nat,j<=ps.length/\i=iV ((j:Int)-1)/\wr=w/\∀i (d:i<ps.length),j<=i->ps[i].1≠k) (λi _=>(intOf i+1).toNat);case atStart=>exact⟨ps.length,bP _,rfl,rfl,λi d h=>by omega⟩
 case round=>
  obtain⟨j,m,rfl,rfl,iZ⟩:=hrel;have nS:=yh iZ;cases j with
  |zero=>
   have l:=yh (uB (ps:=ps) (b:=k) (λq s=>by
    obtain⟨j,m,rfl⟩:=List.mem_iff_getElem.1 s;exact nS.o j m (by omega)))
   go_wp2;go_ret;exact⟨.inl ⟨l.out,rfl⟩,rfl⟩
  |succ j=>
   obtain⟨x,o,rfl,_,r⟩:=(yh sB).out (by omega);obtain⟨g,n,u,y,p,t⟩:=r j (by omega);by_cases f:ps[j].1=k
   .have l:=yh (TS (ps:=ps) (by omega) f (λi d h=>nS.o i d (by omega)));rw [f] at u;go_wp2;go_ret;exact⟨.inr ⟨_,g,n,l.out,rfl,p,(yh t).out⟩,rfl⟩
   .have dG:(((ps[j].1:Nat):Int) == (k:Int))=false:=(by rw [Bool.eq_false_iff,ne_eq,beq_iff_eq];omega);have J8:∀i (d:i<ps.length),j<=i->ps[i].1≠k:=λi d h=>by
     by_cases e:i=j
     .subst e;exact f
     .exact nS.o i d (by omega)
    go_wp2;go_roundw;case rel=>exact⟨j,by omega,by go_num,trivial,(yh J8).out⟩
    case measure=>simp [intOf]
end
end
theorem ay.stored (h:ay w e g c xs) (k:Nat) (v:Value):ay (w.setCell ⟨g,k,none⟩ v) e g c (xs.set k v):=by
 obtain⟨cur,a,b,f,d⟩:=h;refine⟨_,heap_setCell_same _ _ _ _ _ _ a,by simpa using b,?_,d⟩;rw [List.length_set,Array.toList_setIfInBounds,List.take_set,f]
theorem cu.stored {r:Nat} {o:Value} (h:cu w F r s S gl cl ls o xs) (A:k<s) (t:F g) (y:ay w 5 g c (bs l)) (x:im.length=s*512)
    (z:∀j,j<s->bI im j=if j=k then l else bI S.im j):
  cu (w.setCell ⟨gl,k,none⟩ (.slice (some ⟨g,0,none⟩) 512 c)) F r s {S with im:=im} gl cl (ls.set k (.slice (some (aD g 0)) 512 c)) o xs/\aa (λb=>b=gl) w (w.setCell ⟨gl,k,none⟩ (.slice (some ⟨g,0,none⟩) 512 c)):=by
 have LJ:aa (λb=>b=gl) w (w.setCell ⟨gl,k,none⟩ (.slice (some ⟨g,0,none⟩) 512 c)):=aa.setCell (F:=λb=>b=gl) w (p:=(aD gl k)) rfl _;obtain⟨cur,kv,_⟩:=h.last;refine⟨⟨h.fr,h.fl,λb u=>iP (h.lt b u) LJ.size,(LJ.block r (h.lt r h.fr) (λe=>h.last.ne h.dj (by decide) e.symm)).trans h.dj,h.last.stored k _,by rw [List.length_set];exact h.J6,λj n=>?_,
  aC h.db (λb e=>LJ.block b (h.lt b (h.Pe b e)) (dR h.db e kv (by decide))),h.Pe,λi v=>?_,⟨x,h.ok.lo,h.ok.hi,h.ok.puts,h.ok.fuse⟩⟩,LJ⟩
 .simp only [z j n];by_cases e:j=k
  .subst e;rw [aE rfl];exact⟨g,c,by rw [List.getElem?_set_self (by rw [h.J6];exact n)],t,y.other LJ kv (by decide)⟩
  .rw [aA e];obtain⟨m,c',a,d,f⟩:=h.zl j n;exact⟨m,c',by rw [List.getElem?_set_ne (by omega)];exact a,d,f.other LJ kv (by decide)⟩
 .obtain⟨m,c',a,d,f,q⟩:=h.puts i v;exact⟨m,c',a,d,f,q.other LJ kv (by decide)⟩
def zq (S:DS) (s i:Nat):List Int:=pj s (DS.now {S with puts:=S.puts.take i})
theorem xG (h:S.Ok s) (i:Nat):DS.Ok {S with puts:=S.puts.take i} s:=⟨h.len,h.lo,h.hi,λq a=>h.puts q (List.mem_of_mem_take a),h.fuse⟩
theorem Gn (h:S.Ok s) (i:Nat):(zq S s i).length=s*512:=pk s _ (br (xG h i))
theorem ND (h:S.Ok s):zq S s 0=S.im:=by
 refine Dl s (Gn h 0) h.len (λk a=>?_);unfold zq;rw [nw s _ (br (xG h 0)) k a];exact tj _ _ (by simp [ar])
theorem Rf:zq S s S.puts.length=pj s S.now:=by
 unfold zq;rw [List.take_length]
theorem NE (h:S.Ok s) (c:i<S.puts.length):∀j,j<s->bI (zq S s (i+1)) j=if j=S.puts[i].1 then S.puts[i].2 else bI (zq S s i) j:=λj a=>by
 unfold zq;rw [nw s _ (br (xG h (i+1))) j a,nw s _ (br (xG h i)) j a];have b:S.puts.take (i+1)=S.puts.take i ++ [S.puts[i]]:=by rw [List.take_add_one,List.getElem?_eq_getElem c];rfl
 by_cases e:j=S.puts[i].1
 .rw [aE e];unfold DS.now DS.gB;simp only [b];rw [fh];simp [ar,e,List.getD]
 .rw [aA e];have d:ar (S.puts.take (i+1)) j=ar (S.puts.take i) j:=by
   rw [b,fh,kH (puts:= [S.puts[i]]) (by simp;omega),List.append_nil]
  unfold DS.now DS.gB;simp only [d]
theorem Gp {r:Nat} (h:aB w F r s S) (d:S.fuse=0):
  Calls prog 65 #[pQ r] w λe w'=>e= .returned (iV 3)/\w'=w:=by
 obtain⟨c,b,f,g,xs,h⟩:=h;have a:=bH h.dj;go_in;go_wp2;go_ret;exact⟨rfl,rfl⟩
theorem cu.dropped {r:Nat} {l:Value} (h:cu w F r s S gl cl ls l xs):
  cu (w.setCell ⟨r,1,none⟩ (.slice none 0 0)) F r s {S with puts:= []} gl cl ls (.slice none 0 0) []/\aa (λk=>k=r) w (w.setCell ⟨r,1,none⟩ (.slice none 0 0)):=by
 have a:=(h.set 1 (.slice none 0 0)).2;refine⟨⟨h.fr,h.fl,λb g=>iP (h.lt b g) a.size,(h.set 1 _).1.trans (by simp [bG]),h.last.other a h.dj (by decide),h.J6,λj i=>?_,World.ownsRow_nil _ _ _ _,by simp [Value.ownBlock],by simp,⟨h.ok.len,h.ok.lo,h.ok.hi,by simp,h.ok.fuse⟩⟩,a⟩;obtain⟨f,c',c,d,e⟩:=h.zl j i;exact⟨f,c',c,d,e.other a h.dj (by decide)⟩
theorem Ka {wr:World} {r:Nat} {f:Value} (h:cu wr F r s {S with im:=zq S s S.puts.length} gl cl ls f xs) (g:aa F w wr):
  wr.cell? (aD r 1)=some f/\wr.frozen? (aD r 1)=false/\(wr.setCell ⟨r,1,none⟩ (.slice none 0 0)).cell? (aD r 6)=some (iV S.flushes)/\(wr.setCell ⟨r,1,none⟩ (.slice none 0 0)).frozen? (aD r 6)=false/\
  Calls prog 115 #[pQ r] ((wr.setCell ⟨r,1,none⟩ (.slice none 0 0)).setCell ⟨r,6,none⟩ (.int .i64 (wrap64 (S.flushes+1)))) λe w'=>e= .returned (.tuple #[])/\aB w' F r s ((S.flush s).fY)/\aa F w w':=by
 rw [Rf] at h;obtain⟨a,eH⟩:=h.dropped;have c:cu ((wr.setCell ⟨r,1,none⟩ (.slice none 0 0)).setCell ⟨r,6,none⟩ (.int .i64 (wrap64 (S.flushes+1)))) F r s (S.flush s) gl cl ls (.slice none 0 0) []:=
  a.ni (a.set 6 _).2 ((a.set 6 _).1.trans (by simp [bG,DS.flush])) rfl rfl a.ok.fuse
 refine⟨bD h.dj,ae h.dj 1,wG a.dj,ae a.dj 6,(zn r S.fuse _ (bH c.dj) (ae c.dj 2) c.ok.fuse.1).mono ?_⟩;rintro e w' ⟨rfl,rfl⟩;have d:=c.yo;exact⟨rfl,⟨gl,cl,ls,_,_,d.1⟩,((g.trans eH (λj b=> .inl (b▸h.fr))).trans (a.set 6 _).2 (λj b=> .inl (b▸h.fr))).trans d.2 (λj b=> .inl b)⟩
set_option maxRecDepth 100000 in
theorem NF {r:Nat} (hd:aB w F r s S) (J:S.fuse≠0) (aT:S.puts.length+1<=4000000000000):
  Calls prog 65 #[pQ r] w λe w'=>e= .returned (iV 0)/\aB w' F r s ((S.flush s).fY)/\aa F w w':=by
 obtain⟨c,p,k,C,xs,h⟩:=hd;have U:=bH h.dj;have l:(S.fuse == 0)=false:=by simp [J]
 have dh:=h.ok;have h0:cu w F r s {S with im:=zq S s 0} c p k C xs:=by rw [ND h.ok];exact h
 go_in;go_wp2;go_loopw [3] (λi wr=>∃j:Nat,j<=S.puts.length/\i=iV (j:Int)/\∃k,cu wr F r s {S with im:=zq S s j} c p k C xs/\aa F w wr) (λi _=>S.puts.length-(intOf i).toNat);case atStart=>exact⟨0,dU _,rfl,k,h0,aa.refl _ _⟩
 case round=>
  obtain⟨j,hj,rfl,k,hd,y⟩:=hrel;obtain⟨a,ca,wW,q⟩:=hd.form;have x:=aL hd.dj;have n:=bD hd.dj;rw [wW] at n;by_cases bm:j<S.puts.length
  .have cw:(j:Int)<(S.puts.length:Int):=(by omega);obtain⟨d,rfl,K⟩:=q (by simp only;omega);obtain⟨g,D,z,A,I,L⟩:=K j bm;have eF:=(dh.puts S.puts[j] (List.getElem_mem bm)).1;have aie:((S.puts[j].1:Nat):Int)<(s:Int):=(by omega);obtain⟨R,T⟩:=hd.stored eF I L (Gn dh (j+1)) (NE dh bm);have fl:=hd.last.frozen S.puts[j].1;obtain⟨gx,W,jA,_⟩:=hd.zl _ eF;have E:=hd.last.cell jA;have f:=aF R (y.trans T (λb l=> .inl (l▸hd.fl)));have rE:r≠c:=λe=>hd.last.ne hd.dj (by decide) e.symm;have pf:d≠c:=by
    obtain⟨cur,kv,_⟩:=hd.last;exact dR hd.db (by rw [wW];rfl) kv (by decide)
   generalize S.puts[j].1=u at*;have m:∀b o v,b≠c->(wr.setCell ⟨c,u,none⟩ v).cell? (aD b o)=wr.cell? (aD b o):=λb o v l=>World.cell?_of_block (w:=wr) (a:=(aD b o)) (Below.heap_setCell wr ⟨c,u,none⟩ v b l);have N:=λv=>(m r 0 v rE).trans x;have O:=λv=>(m r 1 v rE).trans n;have P:=λv=>(m d (j*2) v pf).trans z;have Q:=λv=>(m d (j*2+1) v pf).trans A;have M:=(aF N (aF O (aF P Q)));go_wp2_with fail;go_region_held3 (λw'=>w'.cell? (aD r 0)=some (.slice (some (aD c 0)) s p)/\w'.cell? (aD r 1)=some (.slice (some (aD d 0)) S.puts.length ca)/\w'.cell? ⟨d,j*2,none⟩=some (iV (u:Int))/\w'.cell? ⟨d,j*2+1,none⟩=some (.slice (some (aD g 0)) 512 D)) (first|exact⟨x,n,z,A⟩|exact⟨M.1 _,M.2.1 _,M.2.2.1 _,M.2.2.2 _⟩) (fail);all_goals
    go_wp2;go_roundw;case rel=>exact⟨j+1,by omega,by go_num,_,f.1.agree (bP _) (λ_ _=>rfl),⟨f.2.os,f.2.tape,f.2.output,f.2.size,f.2.block⟩⟩
    case measure=>simp [intOf];omega
  .have cw:¬(j:Int)<(S.puts.length:Int):=(by omega);have H:j=S.puts.length:=(by omega);rw [H] at hd;obtain⟨G,X,Y,Z,t⟩:=Ka hd y;rw [wW] at G;go_wp2_with (go_at_call 115;refine t.mono ?_;rintro e w5 ⟨rfl,jy,dX⟩);go_ret;exact⟨rfl,jy,dX⟩
def VS (w:World) (F:Nat->Prop) (S:DS) (k:Nat) (vs:List Value):Prop:=
 vs.length=(ar S.puts k).length+1/\∀j,j<vs.length->∃g c,vs[j]? =some (.slice (some (aD g 0)) 512 c)/\F g/\ay w 5 g c (bs (S.gB k j))
theorem qO (a:i<S.puts.length):S.puts.take (i+1)=S.puts.take i ++ [S.puts[i]]:=by rw [List.take_add_one,List.getElem?_eq_getElem a];rfl
theorem VS.skip (b:i<S.puts.length) (h:VS w F {S with puts:=S.puts.take i} k vs) (a:S.puts[i].1≠k):VS w F {S with puts:=S.puts.take (i+1)} k vs:=by
 have c:ar (S.puts.take (i+1)) k=ar (S.puts.take i) k:=by rw [qO b,fh,kH (puts:= [S.puts[i]]) (by simpa using a),List.append_nil]
 unfold VS DS.gB at*;simp only [c] at*;exact h
theorem VS.snoc (q:i<S.puts.length) (h:VS w F {S with puts:=S.puts.take i} k vs) (p:S.puts[i].1=k) (o:F g) (s:ay w 5 g c (bs S.puts[i].2)):
  VS w F {S with puts:=S.puts.take (i+1)} k (vs ++ [.slice (some (aD g 0)) 512 c]):=by
 have b:ar (S.puts.take (i+1)) k=ar (S.puts.take i) k ++ [S.puts[i].2]:=by rw [qO q,fh];simp [ar,p]
 obtain⟨a,n⟩:=h;simp only at a;refine⟨by simp only [b];simp [a],λj r=>?_⟩;by_cases AX:j<vs.length
 .obtain⟨m,c',d,e,f⟩:=n j AX;refine⟨m,c',by rw [List.getElem?_append_left AX];exact d,e,?_⟩;have:DS.gB {S with puts:=S.puts.take (i+1)} k j=DS.gB {S with puts:=S.puts.take i} k j:=by
   unfold DS.gB;split
   .rfl
   .simp only [b];rw [List.getD,List.getD,List.getElem?_append_left (by omega)]
  rw [this];exact f
 .have l:j=vs.length:=by simp at r;omega
  subst l;refine⟨g,c,by simp,o,?_⟩;have:DS.gB {S with puts:=S.puts.take (i+1)} k vs.length=S.puts[i].2:=by
   unfold DS.gB;rw [aA (by omega)];simp only [b,a,Nat.add_sub_cancel];simp [List.getD]
  rw [this];exact s
theorem VS.start (a:F g) (d:ay w 5 g c (bs (bI S.im k))):
  VS w F {S with puts:=S.puts.take 0} k [.slice (some (aD g 0)) 512 c]:=by
 refine⟨by simp [ar],λj b=>?_⟩;have:j=0:=by simp at b;omega
 subst this;exact⟨g,c,rfl,a,d⟩
theorem NG {r:Nat} {K:Value} (h:cu w F r s S gl cl ls K xs) (k:Nat) (D:k<s) (aT:S.puts.length+1<=4000000000000):
  Calls prog 71 #[pQ r,iV (k:Int)] w λe w'=>∃g c vs,e= .returned (.slice (some (aD g 0)) ((ar S.puts k).length+1) c)/\w.heap.size<=g/\ay w' 36 g c vs/\VS w F S k vs/\bW w w':=by
 obtain⟨H,rt,gv,dr,ec⟩:=info_parts td;obtain⟨a,c,rfl,sB⟩:=h.form;have O:=aL h.dj;have t:=bD h.dj;obtain⟨z,cs,wQ,Ue,pi⟩:=h.zl k D;have x:=h.last.cell wQ;have eF:(k:Int)<(s:Int):=by omega
 go_in;go_wp2;go_loopw [5,6] (λv i wr=>∃j:Nat,j<=S.puts.length/\i=iV (j:Int)/\∃vs,wr.ownsRow w.heap.size 36 1 v ((ar (S.puts.take j) k).length+1) vs/\VS w F {S with puts:=S.puts.take j} k vs/\bW w wr) (λ_ i _=>S.puts.length-(intOf i).toNat);case atStart=>
  refine⟨0,dU _,rfl,_,?_,(yh (VS.start (S:=S) Ue pi)).out,(bi _ w).alloc (bP _) _⟩;exact⟨by simp [ar], .inr ⟨w.heap.size,1, #[.slice (some (aD z 0)) 512 cs],by simp [ar],bP _,heap_alloc_new _ _,by simp [ar],by decide,by simp,by simp [ar]⟩⟩
 case round=>
  obtain⟨j,R,rfl,vs,az,IY,d⟩:=hrel;have P:=cell_later d t;by_cases bm:j<S.puts.length
  .have cw:(j:Int)<(S.puts.length:Int):=(by omega);obtain⟨Q,rfl,E⟩:=(yh sB).out (by omega);obtain⟨g,l,I,J,A,n⟩:=E j bm;have L:=cell_later d I;have T:=cell_later d J;have pf:=lK (S.puts.take j) k;have Yx:(S.puts.take j).length<=S.puts.length:=(by rw [List.length_take];omega);by_cases f:S.puts[j].1=k
   .have p:=yh (VS.snoc bm IY f A n);have uK:(ar (S.puts.take (j+1)) k).length=(ar (S.puts.take j) k).length+1:=(by rw [qO bm,fh];simp [ar,f]);rw [f] at L;have bq:=yh az;go_wp2_with (at_builtin;refine wpList_append_own _ rfl _ _ 62 rfl w.heap.size 36 H (.slice none 0 0) 1 24 underlying62 rt gv dr ec rfl (by decide) _ _ _ rfl (bq.o.alloc _) (aD wr.heap.size 0) 1 1 [.slice (some (aD g 0)) 512 l] rfl rfl (cell_one_new _ _ _) (by intro u q;simp at q;subst q;rfl) (by unfold maxLen;omega) (by omega) (by simp;have:=d.size;omega) ?_);intro M N cJ aO jx;have uM:=λb e=>(bq.o.lt b e).1;have bz:=(d.alloc d.size _).grown aO (by simp;have:=d.size;omega) (λb e=>uM b e);have fE:N.ownsRow w.heap.size 36 1 M ((ar (S.puts.take (j+1)) k).length+1) (vs ++ [.slice (some (aD g 0)) 512 l]):=(by rw [(yh uK).out];exact cJ);go_wp2;go_roundw;case rel=>exact⟨j+1,by omega,by go_num,_,(yh fE).out,p.out,bz⟩
    case measure=>simp [intOf];omega
   .have dG:(((S.puts[j].1:Nat):Int) == (k:Int))=false:=(by rw [Bool.eq_false_iff,ne_eq,beq_iff_eq];omega);have uK:ar (S.puts.take (j+1)) k=ar (S.puts.take j) k:=(by rw [qO bm,fh,kH (puts:= [S.puts[j]]) (by simpa using f),List.append_nil]);rw [<-uK] at az;go_wp2;go_roundw;case rel=>exact⟨j+1,by omega,by go_num,_,(yh az).out,(yh (VS.skip bm IY f)).out,d⟩
    case measure=>simp [intOf];omega
  .have cw:¬(j:Int)<(S.puts.length:Int):=(by omega);have y:j=S.puts.length:=(by omega);subst y;rw [List.take_length] at az IY;obtain⟨g,l,G,C,n,_⟩:=ay.eW az (by rintro rfl;rcases az.2 with ⟨_,h⟩|⟨_,_,_,h,_⟩;omega;cases h);have m:=yh (aF C (aF n IY));subst G;go_wp2;go_ret;exact⟨g,l,rfl,m.o.1,vs,m.o.2.1,m.o.2.2,d⟩
theorem vG (x:Int) (y:Nat) (h:max x 0=(y:Int)) (w:World):
  Calls prog 126 #[iV x] w λe w'=>e= .returned (iV (y:Int))/\w'=w:=by
 by_cases b:x<0
 .have a:(y:Int)=0:=by omega
  rw [a];go_in;go_wp2;go_ret;exact⟨rfl,rfl⟩
 .have a:(y:Int)=x:=by omega
  rw [a];go_in;go_wp2;go_ret;exact⟨rfl,rfl⟩
theorem Kb (a lb:List Int) (j:Nat) (E8:j<a.length) (Bj:j<lb.length):(a.take j ++ lb.drop j).set j a[j]=a.take (j+1) ++ lb.drop (j+1):=by
 have b:(a.take j).length=j:=by rw [List.length_take];omega
 have c:a.take (j+1)=a.take j ++ [a[j]]:=by rw [List.take_add_one,List.getElem?_eq_getElem E8];rfl
 rw [List.set_append_right _ _ (by omega),b,Nat.sub_self,List.drop_eq_getElem_cons Bj,c,List.set_cons_zero,List.append_assoc];rfl
set_option maxRecDepth 100000 in
theorem Rg (dh:S.Ok s) (eF:k<s) (I:ay w 36 g c vs) (J:VS w F S k vs)
    (A B C:Int) (A' B' l:Nat) (Y:max A 0=(A':Int)) (Z:max B 0=(B':Int)) (hC:max C 0=(l:Int)) (N:A<=9223372036854775807) (O:B<=9223372036854775807) (YD:C<=9223372036854775807):
  Calls prog 72 #[.slice (some (aD g 0)) ((ar S.puts k).length+1) c, .agg #[iV A,iV B,iV C]] w λe w'=>∃b,e= .returned (.slice (some (aD b 0)) 512 512)/\w.heap.size<=b/\ay w' 5 b 512 (bs (jh S k A' B' l))/\bW w w':=by
 have Vt:=J.1;have Jh:∀j:Nat,(j:Int)%(((ar S.puts k).length:Int)+1)=((j%((ar S.puts k).length+1):Nat):Int):=λj=>by push_cast;rfl
 have BZ:∀j:Nat,j%((ar S.puts k).length+1)<(ar S.puts k).length+1:=λj=>Nat.mod_lt _ (by omega);obtain⟨G,Xy⟩:=bQ (A'%((ar S.puts k).length+1));obtain⟨H,Zd⟩:=bQ (B'%((ar S.puts k).length+1));have aif:=Xy▸BZ A';have aig:=Zd▸BZ B';have R:=Jh A';have T:=Jh B';rw [<-Xy] at R;rw [<-Zd] at T;obtain⟨ga,ca,U,hFa,A6⟩:=J.2 G (by omega);obtain⟨X,cb,W,Dp,CA⟩:=J.2 H (by omega);have ka:=I.cell U;have kb:=I.cell W;have hgw:=I.lt;have P:(l:Int)%513=((l%513:Nat):Int):=by push_cast;rfl
 obtain⟨a,Bl⟩:=bQ (l%513);rw [<-Bl] at P;have Xb:a<=512:=by omega
 have x:=vG A A' Y;have z:=vG B B' Z;have D:=vG C l hC;have hA2:(A':Int)<=9223372036854775807:=by omega
 have eM:(B':Int)<=9223372036854775807:=by omega
 have YE:(l:Int)<=9223372036854775807:=by omega
 have aoX:(G:Int)<((ar S.puts k).length:Int)+1:=by omega
 have aoY:(H:Int)<((ar S.puts k).length:Int)+1:=by omega
 have IT:jh S k A' B' l=(S.gB k G).take a ++ (S.gB k H).drop a:=by unfold jh;rw [<-Xy,<-Zd,<-Bl]
 rw [IT];obtain⟨K,L⟩:=bL A6 CA;have n:=yh (DS.np dh eF (j:=G) (by omega));have d:=yh (DS.np dh eF (j:=H) (by omega));clear Y Z hC N O YD Jh BZ Bl Xy Zd IT A6 CA I J Vt U W aif aig;generalize S.gB k G=f at*;generalize S.gB k H=lb at*;go_in;go_wp2_with fail;refine(x _).mono ?_;rintro e w1 ⟨rfl,m⟩;have ez:=m.symm;subst ez;clear m;go_wp2_with fail;refine(z _).mono ?_;rintro e w1 ⟨rfl,m⟩;have ez:=m.symm;subst ez;clear m;go_wp2_with fail;refine(D _).mono ?_;rintro e w1 ⟨rfl,m⟩;have ez:=m.symm;subst ez;clear m;have sb:Src (w.alloc (.cells #[.int .i64 A, .int .i64 B, .int .i64 C] 115)) (some (aD X 0)) 512 lb:=by
  have:=L.o.src;rw [d.o] at this;exact this.later ((bi _ w).alloc (bP _) _)
 have Me:=lH (some (aD X 0)) 512 cb lb _ (by omega) sb;clear sb;go_wp2_with (go_at_call 97;refine Me.mono ?_;rintro e w2 ⟨b,rfl,Rh,DA,eC⟩);have aW:=((bi _ w).alloc (bP _) _).trans (eC.mono (by simp));have fU:w.heap.size<=b:=by simp at Rh;omega
 have A7:w2.heap[b]? =some (.cells (bs (f.take 0 ++ lb.drop 0)).toArray 5 (0,0)):=by simpa using DA.full (by simp [bs,d.o])
 have r:=yh A7;clear DA eC Rh Me A7 x z D ka kb;go_loopw [9] (λi wr=>∃j:Nat,j<=a/\i=iV (j:Int)/\wr.heap[b]? =some (.cells (bs (f.take j ++ lb.drop j)).toArray 5 (0,0))/\bW w wr) (λi _=>a-(intOf i).toNat);case atStart=>exact⟨0,dU _,rfl,r.o,aW⟩
 case round=>
  clear aW r;obtain⟨j,hj,rfl,hh,Q⟩:=hrel;have q:=yh hh;clear hh;by_cases bm:j<a
  .have cw:(j:Int)<(a:Int):=(by omega);have hj5:(j:Int)<512:=(by omega);have Xy:j<f.length:=(by have:=n.o;omega);have Zd:j<lb.length:=(by have:=d.o;omega);have ca1:wr.cell? (aD ga j)=some (.int .u8 f[j]):=by
    have:=K.o.byte Xy;rw [aK,Nat.zero_add] at this;simpa [List.getD,List.getElem?_eq_getElem Xy] using (cell_later Q this)
   have v:∃u,wr.cell? (aD b j)=some u:=⟨_,aj q.o (j:=j) (by simp only [List.getElem?_toArray];exact List.getElem?_eq_getElem (by simp [bs];have:=n.o;have:=d.o;omega))⟩;obtain⟨u,v⟩:=v;have fb1:=ae q.o j;have E:(wr.setCell ⟨b,j,none⟩ (.int .u8 f[j])).heap[b]? =some (.cells (bs (f.take (j+1) ++ lb.drop (j+1))).toArray 5 (0,0)):=by
    rw [heap_setCell_same _ _ _ _ _ _ q.o,<-Kb f lb j Xy Zd];simp [bs,List.map_set]
   have t:=yh (aF E (Q.setCell (p:=⟨b,j,none⟩) fU (.int .u8 f[j])));clear E q;generalize f[j]=y at*;go_wp2;go_roundw;case rel=>exact⟨j+1,by omega,by go_num,t.o.1,t.o.2⟩
   case measure=>simp [intOf];omega
  .have cw:¬(j:Int)<(a:Int):=(by omega);have ej:j=a:=(by omega);subst ej;have JY:ay wr 5 b 512 (bs (f.take j ++ lb.drop j)):=by
    have I1:(bs (f.take j ++ lb.drop j)).length=512:=(by simp only [bs,List.length_map,dT,List.length_take,List.length_drop];have:=n.o;have:=d.o;omega);have:=ay.xp q.o (by rw [I1];decide);rw [I1] at this;exact this
   have M:=yh JY;clear JY q;go_wp2;go_ret;refine⟨b,rfl,fU,?_,Q⟩;have hx:=M.o;simp only [bs,List.map_append,List.map_take,List.map_drop] at hx;exact hx
def mw (w:World) (F:Nat->Prop) (S:DS) (l:List P3) (ks:List Nat) (xs:List Value):Prop:=
 xs.length=ks.length*2/\∀i (hi:i<ks.length),∃g,xs[2*i]? =some (iV ((ks[i]:Nat):Int))/\xs[2*i+1]? =some (.slice (some (aD g 0)) 512 512)/\F g/\ay w 5 g 512 (bs (fd S l ks[i]))
theorem mw.snoc {l:List P3} (h:mw w F S l ks xs) (o:∀k,F k->G k) (q:∀b ys,F b->ay w 5 b 512 ys->ay w' 5 b 512 ys) (p:G g) (s:ay w' 5 g 512 (bs (fd S l k))):
  mw w' G S l (ks ++ [k]) (xs ++ [iV (k:Int), .slice (some (aD g 0)) 512 512]):=by
 obtain⟨m,n⟩:=h;refine⟨by simp [m];omega,λi r=>?_⟩;by_cases nj:i<ks.length
 .obtain⟨j,c,d,a,e⟩:=n i nj;refine⟨j,?_,?_,o _ a,?_⟩
  .rw [List.getElem?_append_left (by omega),c,List.getElem_append_left nj]
  .rw [List.getElem?_append_left (by omega),d]
  .rw [List.getElem_append_left nj];exact q _ _ a e
 .have f:i=ks.length:=by simp at r;omega
  subst f;refine⟨g,?_,?_,p,?_⟩
  .rw [List.getElem?_append_right (by omega),show 2*ks.length-xs.length=0 by omega];simp
  .rw [List.getElem?_append_right (by omega),show 2*ks.length+1-xs.length=1 by omega];simp
  .simpa using s
theorem mw.agree {l:List P3} (h:mw w F S l ks xs) (f:∀k,F k->G k) (j:∀b ys,F b->ay w 5 b 512 ys->ay w' 5 b 512 ys):mw w' G S l ks xs:=
   ⟨h.1,λi m=>by obtain⟨g,c,d,a,e⟩:=h.2 i m;exact⟨g,c,d,f _ a,j _ _ a e⟩⟩
theorem vZ (h:ar S.puts k= []):aG S (k+1)=aG S k:=by rw [pp,aE h,List.append_nil]
theorem pW (h:ar S.puts k≠ []):aG S (k+1)=aG S k ++ [k]:=by rw [pp,aA h]
theorem Gq (h:S.puts= []) (s:Nat):aG S s= []:=by
 unfold aG;rw [List.filter_eq_nil_iff];intro k _;simp [h,ar]
theorem wc {wr wx:World} {l:List P3} (dh:S.Ok s) (eF:k<s) (x:ar S.puts k≠ []) (m:ay wr 36 g c vs) (n:VS w F S k vs) (bm:∀b,F b->b<w.heap.size) (i:bW w wr) (o:bW wr wx)
    (A B C:Int) (y:mh l (aG S k).length=(A,B,C)) (r:A<=9223372036854775807) (t:B<=9223372036854775807) (u:C<=9223372036854775807):
  Calls prog 72 #[.slice (some (aD g 0)) ((ar S.puts k).length+1) c, .agg #[iV A,iV B,iV C]] wx λe w'=>∃a,e= .returned (.slice (some (aD a 0)) 512 512)/\wx.heap.size<=a/\ay w' 5 a 512 (bs (fd S l k))/\bW wx w':=by
 have d:VS wx F S k vs:=⟨n.1,λj v=>by obtain⟨a,c',p,f,q⟩:=n.2 j v;exact⟨a,c',p,f,q.agree ((i.trans (o.mono i.size)).block a (bm a f))⟩⟩;have e:fd S l k=jh S k (max A 0).toNat (max B 0).toNat (max C 0).toNat:=by
  unfold fd uN;rw [aA x,y]
 rw [e];exact Rg dh eF (m.agree (o.block g m.lt)) d A B C _ _ _ (by omega) (by omega) (by omega) r t u
theorem AU {wr a:World} {l:List P3} {i:Value} {o:Obj} (c:bW w wr) (ff:bW wr w5) (az:wr.ownsRow w.heap.size 120 2 v (aG S k).length ys)
    (zt:mw wr (λb=>w.heap.size<=b/\b<wr.heap.size) S l (aG S k) ys) (d:ar S.puts k≠ []) (n:wr.heap.size<=g) (f:ay w5 5 g 512 (bs (fd S l k))) (aO:(w5.alloc o).grownBy a v.ownBlock)
    (cJ:a.ownsRow w.heap.size 120 2 i ((aG S k).length+1) (ys ++ [iV (k:Int), .slice (some (aD g 0)) 512 512])):
  a.ownsRow w.heap.size 120 2 i (aG S (k+1)).length (ys ++ [iV (k:Int), .slice (some (aD g 0)) 512 512])/\mw a (λb=>w.heap.size<=b/\b<a.heap.size) S l (aG S (k+1)) (ys ++ [iV (k:Int), .slice (some (aD g 0)) 512 512])/\bW w a:=by
 have m:=c.size;have Zi:(w5.alloc o).heap.size=w5.heap.size+1:=by simp
 have Mf:=aO.size;have UF:=f.lt;have rF:=aC az (λb e=>ff.block b (az.lt b e).2);have au:∀b ys,ay w5 5 b 512 ys->ay a 5 b 512 ys:=λb zs eC=>by
  have j:=eC.lt;refine eC.agree ((aO.block b (by omega) (λe=>?_)).trans (Below.heap_alloc _ _ _ j));obtain⟨cur,ie,_⟩:=eC;exact dR rF e.symm ie (by decide) rfl
 refine⟨by rw [pW d];simpa using cJ,?_,?_⟩
 .rw [pW d];exact zt.snoc (λb h=>⟨h.1,by omega⟩) (λb zs h DA=>au b zs (DA.agree (ff.block b h.2))) ⟨by omega,by omega⟩ (au g _ f)
 .exact((c.trans (ff.mono m)).alloc (by omega) o).grown aO (by omega) (λb e=>(az.lt b e).1)
theorem LB {wr:World} {l:List P3} (a:bW w wr) (ff:bW wr w5) (az:wr.ownsRow w.heap.size 120 2 v (aG S k).length ys)
    (zt:mw wr (λb=>w.heap.size<=b/\b<wr.heap.size) S l (aG S k) ys) (c:ar S.puts k= []):
  w5.ownsRow w.heap.size 120 2 v (aG S (k+1)).length ys/\mw w5 (λb=>w.heap.size<=b/\b<w5.heap.size) S l (aG S (k+1)) ys/\bW w w5:=by
 have qE:=ff.size;rw [vZ c];exact⟨aC az (λb e=>ff.block b (az.lt b e).2),zt.agree (λb h=>⟨h.1,by omega⟩) (λb zs h DA=>DA.agree (ff.block b h.2)),a.trans (ff.mono a.size)⟩
theorem zv {wr:World} {r:Nat} {e:Value} {l:List P3} (h:cu wr G r s {S with im:=im} gl cl ls e xs) (g:im=pj s (fd S l)) (d:F r) (i:aa F w wr):
  wr.cell? (aD r 1)=some e/\wr.frozen? (aD r 1)=false/\(wr.setCell ⟨r,1,none⟩ (.slice none 0 0)).cell? (aD r 2)=some (iV S.fuse)/\(wr.setCell ⟨r,1,none⟩ (.slice none 0 0)).frozen? (aD r 2)=false/\
    ((wr.setCell ⟨r,1,none⟩ (.slice none 0 0)).setCell ⟨r,2,none⟩ (.int .i64 (-1))).cell? (aD r 3)=some (iV S.life)/\((wr.setCell ⟨r,1,none⟩ (.slice none 0 0)).setCell ⟨r,2,none⟩ (.int .i64 (-1))).frozen? (aD r 3)=false/\
  cu (((wr.setCell ⟨r,1,none⟩ (.slice none 0 0)).setCell ⟨r,2,none⟩ (.int .i64 (-1))).setCell ⟨r,3,none⟩ (.int .i64 (wrap64 (S.life+1)))) G r s (S.il s l) gl cl ls (.slice none 0 0) []/\
  aa F w (((wr.setCell ⟨r,1,none⟩ (.slice none 0 0)).setCell ⟨r,2,none⟩ (.int .i64 (-1))).setCell ⟨r,3,none⟩ (.int .i64 (wrap64 (S.life+1)))):=by
 subst g;obtain⟨a,eH⟩:=h.dropped;have b:cu ((wr.setCell ⟨r,1,none⟩ (.slice none 0 0)).setCell ⟨r,2,none⟩ (.int .i64 (-1))) G r s {S with im:=pj s (fd S l),puts:= [],fuse:= -1} gl cl ls (.slice none 0 0) []:=
  a.ni (a.set 2 _).2 ((a.set 2 _).1.trans (by simp [bG])) rfl rfl (by simp)
 have f:cu (((wr.setCell ⟨r,1,none⟩ (.slice none 0 0)).setCell ⟨r,2,none⟩ (.int .i64 (-1))).setCell ⟨r,3,none⟩ (.int .i64 (wrap64 (S.life+1)))) G r s (S.il s l) gl cl ls (.slice none 0 0) []:=
  b.ni (b.set 3 _).2 ((b.set 3 _).1.trans (by simp [bG,DS.il])) rfl rfl (by simp [DS.il])
 exact⟨bD h.dj,ae h.dj 1,bH a.dj,ae a.dj 2,fI b.dj,ae b.dj 3,f,
    ((i.trans eH (λj c=> .inl (c▸d))).trans (a.set 2 _).2 (λj c=> .inl (c▸d))).trans (b.set 3 _).2 (λj c=> .inl (c▸d))⟩
theorem IL {wr:World} {l:List P3} (az:w.ownsRow base 120 2 v ks.length ys) (zt:mw wr G S l ks ys):
  ∃a c,v= .slice a ks.length c/\(0<ks.length->∃gf,a=some (aD gf 0)/\base<=gf/\∀i (d:i<ks.length),∃g,w.cell? ⟨gf,i*2,none⟩=some (iV ((ks[i]:Nat):Int))/\w.cell? ⟨gf,i*2+1,none⟩=some (.slice (some (aD g 0)) 512 512)/\G g/\ay wr 5 g 512 (bs (fd S l ks[i]))):=by
 have f:=az;obtain⟨_,⟨e,s⟩|⟨b,m,cur,e,r,_⟩⟩:=az
 .exact⟨none,0,by rw [e,s],λh0=>by omega⟩
 .refine⟨_,_,e,λ_=>⟨b,rfl,r,λi d=>?_⟩⟩;obtain⟨g,n,o,p,q⟩:=zt.2 i d;have j:=f.cells (g:=b) (by rw [e];rfl) _ _ n;have k:=f.cells (g:=b) (by rw [e];rfl) _ _ o;rw [aK,Nat.zero_add] at j k;exact⟨g,by rw [Nat.mul_comm];exact j,by rw [Nat.mul_comm];exact k,p,q⟩
set_option maxRecDepth 100000 in
theorem Gr {r:Nat} (hd:aB w F r s S) (d:S.puts.length=0) (a:Option Addr) (n c:Nat) (l:List P3):
  Calls prog 30 #[pQ r, .slice a n c] w λe w'=>e= .returned (.tuple #[])/\aB w' (more F w w') r s (S.il s l)/\aa F w w':=by
 obtain⟨o,j,p,A,xs,h⟩:=hd;obtain⟨q,t,wW,_⟩:=h.form;have g:=bD h.dj;obtain⟨m,u,v,x,y,z,nF,gy⟩:=zv h (uO h.ok l h.ok.len (λi _=>by simp [(Gq (List.eq_nil_of_length_eq_zero d) s)])) h.fr (aa.refl F w);have f:=(aF (show aB _ (more F w (((w.setCell ⟨r,1,none⟩ (.slice none 0 0)).setCell ⟨r,2,none⟩ (.int .i64 (-1))).setCell ⟨r,3,none⟩ (.int .i64 (wrap64 (S.life+1))))) r s (S.il s l) from ⟨o,j,p,_,_,nF.mono (λ_ b=> .inl b) (λk b=>by
  rcases b with b|b
  .exact nF.lt k b
  .exact b.2)⟩) gy)
 rw [wW,d] at g m;go_in;go_wp2;refine wp_loop_rounds 1 ?_;rw [rounds_succ];go_wp2
 go_end0
 exact⟨rfl,f⟩
set_option maxRecDepth 100000 in
theorem Gs {r:Nat} (hd:aB w F r s S) (hz:0<S.puts.length) (aT:S.puts.length+1<=4000000000000) (a:Option Addr) (n c:Nat) (l:List P3) (Dt:kS w a n l) (hn:n<=140737488355328):
  Calls prog 30 #[pQ r, .slice a n c] w λe w'=>e= .returned (.tuple #[])/\aB w' (more F w w') r s (S.il s l)/\aa F w w':=by
 obtain⟨i0,rt,gv,dr,ec⟩:=info_parts Mc;obtain⟨m,cl,W,pv,xs,h⟩:=hd;obtain⟨y,Fg,HFr⟩:=jw h.ok h.fl h.fr;obtain⟨ap,cp,wW,_⟩:=h.form;have c0:=aL h.dj;have c1:=bD h.dj;rw [wW] at c1;obtain⟨km,H,U⟩:=jw h.ok.hi h Dt;clear h wW Dt;go_in;go_wp2;clear c1;go_loopw [4,5,6,7,8] (λkc v i _ _ wr=>∃t:Nat,t<=s/\i=iV (t:Int)/\kc=iV ((aG S t).length:Int)/\∃P,wr.ownsRow w.heap.size 120 2 v (aG S t).length P/\mw wr (λb=>w.heap.size<=b/\b<wr.heap.size) S l (aG S t) P/\bW w wr) (λ_ _ i _ _ _=>s-(intOf i).toNat);case atStart=>exact⟨0,dU _,rfl,rfl, [],World.ownsRow_nil _ _ _ _,⟨rfl,λi hi=>by simp [aG] at hi⟩,bi _ _⟩
 case round=>
  obtain⟨t,ht,rfl,rfl,P,az,zt,d⟩:=hrel;have e0:=cell_later d c0;have I2:(aG S t).length<=t:=by
   have:=List.length_filter_le (λk=> !(ar S.puts k).isEmpty) (List.range t);rw [List.length_range] at this;exact this
  by_cases bm:t<s
  .have cw:(t:Int)<(s:Int):=(by omega);have hh:=H.agree d.size (λk f=>d.block k (H.lt k f));obtain⟨tk,bq,u,pf⟩:=cM (NG hh t bm aT) az zt (lK S.puts t);clear hh az zt;by_cases E:ar S.puts t= []
   .have cm:(ar S.puts t).length=0:=(by rw [E];rfl);rw [cm] at tk;have Jm:=(λw5 h5=>LB (w5:=w5) d h5 bq u E);have aX:=vZ E;have L:=aX;clear aX E cm;go_wp2_with fail;refine tk.mono ?_;rintro e w1 ⟨g1,cg1,vs,rfl,o8,lG,IY,aq⟩;obtain⟨J,K,p⟩:=Jm w1 aq;have C:=(aF J (aF K p));clear tk Jm J K p lG IY aq bq u d e0;go_wp2;go_roundw;case rel=>exact⟨t+1,by omega,by go_num,by rw [L],P,C.1,C.2.1,C.2.2⟩
    case measure=>simp [intOf];omega
   .have cm:((((ar S.puts t).length:Int)+1) == 1)=false:=by
     have:=List.length_pos_iff.2 E;rw [Bool.eq_false_iff,ne_eq,beq_iff_eq];omega
    have aX:(aG S (t+1)).length=(aG S t).length+1:=(by rw [pW E];simp);have L:=aX;clear aX;go_wp2_with fail;refine tk.mono ?_;rintro e w1 ⟨g1,cg1,vs,rfl,o8,lG,IY,aq⟩;have Ri:=d.trans (aq.mono d.size);have N:=lG;have O:=IY;clear lG IY tk;by_cases kT:n=0
    .subst kT;have I:mh l (aG S t).length=(0,0,0):=(by simp [mh,U.1]);have IT:=λo=>wc y bm E N O (λb eC=>iP (H.lt b eC) d.size) aq ((bi w1.heap.size w1).alloc (bP _) o) 0 0 0 I (by omega) (by omega) (by omega);have Xd:=IT;clear IT I;go_wp2_with fail;refine(Xd _).mono ?_;rintro e w5 ⟨Q,rfl,Uc,Fa,ff⟩;have NH:=(aq.alloc aq.size _).trans (ff.mono (by simp;have:=aq.size;omega));have rF:=aC bq (λb e=>NH.block b (bq.lt b e).2);have R:wr.heap.size<=Q:=(by simp at Uc;have:=aq.size;omega);obtain⟨I3,Gt,z,A⟩:=cM (jQ d.size NH.size) rF Fa NH;clear rF Fa NH ff Uc Xd N O Ri;go_wp2_with (at_builtin;refine wpList_append_own _ rfl _ _ 63 rfl w.heap.size 120 i0 _ 2 32 underlying63 rt gv dr ec rfl (by decide) _ _ _ rfl (Gt.alloc _) (aD w5.heap.size 0) 1 1 [iV (t:Int), .slice (some (aD Q 0)) 512 512] rfl rfl (World.news_of_block (cs:= #[iV (t:Int), .slice (some (aD Q 0)) 512 512]) (t:=120) (fr:=(0,0)) (heap_alloc_new w5 _)) (by simp [Value.oneCell']) (by unfold maxLen;omega) (by omega) (by simp;omega) ?_);intro v' w6 cJ aO jx;obtain⟨J,K,p⟩:=AU d A bq u E R z aO cJ;have C:=(aF J (aF K p));clear J K p cJ aO jx Gt z A bq u d e0;go_wp2;go_roundw;case rel=>exact⟨t+1,by omega,by go_num,by rw [L];go_num,_,C.1,C.2.1,C.2.2⟩
     case measure=>simp [intOf];omega
    .obtain⟨x,rfl⟩:∃x,a=some x:=by
      cases a with
      |none=>exact absurd (U.2.1 rfl) kT
      |some x=>exact⟨x,rfl⟩
     have jT:=U.1;have YH:0<l.length:=(by omega);obtain⟨q,I⟩:=bQ ((aG S t).length%n);have hqn:q<n:=(by rw [I];exact Nat.mod_lt _ (by omega));have A5:q<l.length:=(by omega);obtain⟨b,o,rfl,p0,X,Y⟩:=U.2.2.1 x rfl q A5;have O9:mh l (aG S t).length=(l[q].1,l[q].2.1,l[q].2.2):=by
      have e1:(aG S t).length%l.length=q:=(by rw [jT,I]);simp only [mh,YH,dif_pos,e1]
     obtain⟨b1,b2,b3⟩:=U.2.2.2 l[q] (List.getElem_mem A5);have IT:=λo=>wc y bm E N O (λb eC=>iP (H.lt b eC) d.size) aq ((bi w1.heap.size w1).alloc (bP _) o) _ _ _ O9 b1 b2 b3;have Pz:((aG S t).length:Int)%(n:Int)=(q:Int):=(by rw [I];push_cast;rfl);have iA:(q:Int)<(n:Int):=(by omega);replace p0:=cell_later Ri p0;replace X:=cell_later Ri X;replace Y:=cell_later Ri Y;have hbw:=World.block_lt_of_cell? _ _ p0;have Xd:=IT;clear IT O9 I;generalize l[q].1=qa at*;generalize l[q].2.1=qb at*;generalize l[q].2.2=qc at*;go_wp2_with fail;refine(Xd _).mono ?_;rintro e w5 ⟨Q,rfl,Uc,Fa,ff⟩;have NH:=(aq.alloc aq.size _).trans (ff.mono (by simp;have:=aq.size;omega));have rF:=aC bq (λb e=>NH.block b (bq.lt b e).2);have R:wr.heap.size<=Q:=(by simp at Uc;have:=aq.size;omega);obtain⟨I3,Gt,z,A⟩:=cM (jQ d.size NH.size) rF Fa NH;clear p0 X Y rF Fa NH ff Uc Xd N O Ri;go_wp2_with (at_builtin;refine wpList_append_own _ rfl _ _ 63 rfl w.heap.size 120 i0 _ 2 32 underlying63 rt gv dr ec rfl (by decide) _ _ _ rfl (Gt.alloc _) (aD w5.heap.size 0) 1 1 [iV (t:Int), .slice (some (aD Q 0)) 512 512] rfl rfl (World.news_of_block (cs:= #[iV (t:Int), .slice (some (aD Q 0)) 512 512]) (t:=120) (fr:=(0,0)) (heap_alloc_new w5 _)) (by simp [Value.oneCell']) (by unfold maxLen;omega) (by omega) (by simp;omega) ?_);intro v' w6 cJ aO jx;obtain⟨J,K,p⟩:=AU d A bq u E R z aO cJ;have C:=(aF J (aF K p));clear J K p cJ aO jx Gt z A bq u d e0;go_wp2;go_roundw;case rel=>exact⟨t+1,by omega,by go_num,by rw [L];go_num,_,C.1,C.2.1,C.2.2⟩
     case measure=>simp [intOf];omega
  .have cw:¬(t:Int)<(s:Int):=(by omega);have et:t=s:=(by omega);subst et;obtain⟨G,hW7⟩:=bQ wr;subst hW7;have gy:=aa.ah F d;have AY:∀k,more F w G k->k<G.heap.size:=λk f=>by
    rcases f with f|f
    .exact iP (H.lt k f) d.size
    .exact f.2
   obtain⟨Z,Hk7,Xz,acV⟩:=cM ((H.agree d.size (λk f=>d.block k (H.lt k f))).mono (λ_ f=> .inl f) AY) gy az zt;clear gy AY az zt d H U c0;go_wp2;clear e0;go_loopw [9] (λi wr=>∃j:Nat,j<=(aG S t).length/\i=iV (j:Int)/\∃W im,cu wr (more F w G) r t {S with im:=im} m cl W pv xs/\(∀i,i<t->bI im i=if i∈(aG S t).take j then fd S l i else bI S.im i)/\aa F w wr/\wr.ownsRow w.heap.size 120 2 u5 (aG S t).length P/\mw wr (λb=>w.heap.size<=b/\b<G.heap.size) S l (aG S t) P/\wr.heap.size=G.heap.size) (λi _=>(aG S t).length-(intOf i).toNat);case atStart=>exact⟨0,dU _,rfl,W,S.im,Z,λi _=>by simp,Hk7,Xz,acV,rfl⟩
   case round=>
    clear Z Hk7 Xz acV;obtain⟨j,hj,rfl,W,im,hd,Du,f,az,zt,ef⟩:=hrel;have c0:=aL hd.dj;obtain⟨af,cf,T,D⟩:=IL az zt;have IS:=Du;clear Du;by_cases bm:j<(aG S t).length
    .have cw:(j:Int)<((aG S t).length:Int):=(by omega);obtain⟨gf,rfl,hgf,D⟩:=D (by omega);obtain⟨g,X,Y,hF,hr⟩:=D j bm;have Kc:=List.getElem?_eq_getElem bm;obtain⟨eF,E,_,P5⟩:=yx y l hd.ok.len Kc IS;have aie:(((aG S t)[j]:Nat):Int)<(t:Int):=(by omega);obtain⟨q1,q2⟩:=hd.stored eF (.inr hF) hr (im:=splice im ((aG S t)[j] *512) (fd S l (aG S t)[j])) (by rw [jg _ _ _ (by rw [tp y l _ eF];have:=hd.ok.len;simp only at this;omega)];exact hd.ok.len) (λi hi=>rZ hd.ok.len (tp y l _ eF) eF);obtain⟨gx,cx,jA,_⟩:=hd.zl _ eF;have cl0:=hd.last.cell jA;have fl:=hd.last.frozen (aG S t)[j];have rE:r≠m:=λe=>hd.last.ne hd.dj (by decide) e.symm;have eC:=hd.last;obtain⟨cur,kv,_⟩:=eC;have pf:gf≠m:=dR az (by rw [T];rfl) kv (by decide);have fE:(wr.setCell ⟨m,(aG S t)[j],none⟩ (.slice (some ⟨g,0,none⟩) 512 512)).ownsRow w.heap.size 120 2 u5 (aG S t).length P:=aC az (λb e=>Below.heap_setCell _ _ _ _ (dR az e kv (by decide)));have acX:=zt.agree (λ_ h=>h) (λb zs _ DA=>DA.other q2 kv (by decide));have I:cu (wr.setCell ⟨m,(aG S t)[j],none⟩ (.slice (some ⟨g,0,none⟩) 512 512)) (more F w G) r t {S with im:=splice im ((aG S t)[j] *512) (fd S l (aG S t)[j])} m cl (W.set (aG S t)[j] (.slice (some (aD g 0)) 512 512)) pv xs/\(∀i,i<t->bI (splice im ((aG S t)[j] *512) (fd S l (aG S t)[j])) i=if i∈(aG S t).take (j+1) then fd S l i else bI S.im i)/\aa F w (wr.setCell ⟨m,(aG S t)[j],none⟩ (.slice (some ⟨g,0,none⟩) 512 512))/\
         (wr.setCell ⟨m,(aG S t)[j],none⟩ (.slice (some ⟨g,0,none⟩) 512 512)).ownsRow w.heap.size 120 2 u5 (aG S t).length P/\mw (wr.setCell ⟨m,(aG S t)[j],none⟩ (.slice (some ⟨g,0,none⟩) 512 512)) (λb=>w.heap.size<=b/\b<G.heap.size) S l (aG S t) P/\(wr.setCell ⟨m,(aG S t)[j],none⟩ (.slice (some ⟨g,0,none⟩) 512 512)).heap.size=G.heap.size:=
        ⟨q1,P5,f.trans q2 (λb d=> .inl (d▸Fg)),fE,acX,by simpa [World.setCell] using ef⟩
     have Hq:=I;have mo:∀b o v,b≠m->(wr.setCell ⟨m,(aG S t)[j],none⟩ v).cell? (aD b o)=wr.cell? (aD b o):=λb o v d=>World.cell?_of_block (w:=wr) (a:=(aD b o)) (Below.heap_setCell wr ⟨m,(aG S t)[j],none⟩ v b d);have m0:=λv=>(mo r 0 v rE).trans c0;have m2:=λv=>(mo gf (j*2) v pf).trans X;have m3:=λv=>(mo gf (j*2+1) v pf).trans Y;have M:=(aF m0 (aF m2 m3));clear m0 m2 m3 mo I q1 q2 hr hd D f jA az zt fE acX kv P5 IS Kc;generalize (aG S t)[j]=kj at*;subst T;go_wp2_with fail;go_region_held3 (λw'=>w'.cell? (aD r 0)=some (.slice (some (aD m 0)) t cl)/\w'.cell? ⟨gf,j*2,none⟩=some (iV (kj:Int))/\w'.cell? ⟨gf,j*2+1,none⟩=some (.slice (some (aD g 0)) 512 512)) (first|exact⟨c0,X,Y⟩|exact⟨M.1 _,M.2.1 _,M.2.2 _⟩) (fail);all_goals
      go_wp2;go_roundw;case rel=>
       obtain⟨J,K,p,z4,z5,z6⟩:=Hq;exact⟨j+1,by omega,by go_num,_,_,J.agree (bP _) (λ_ _=>rfl),K,⟨p.os,p.tape,p.output,p.size,p.block⟩,z4,z5,z6⟩
      case measure=>simp [intOf];omega
    .have cw:¬(j:Int)<((aG S t).length:Int):=(by omega);have ej:j=(aG S t).length:=(by omega);rw [ej] at IS;have bR:=uO y l hd.ok.len IS;obtain⟨d1,d2,d3,d4,d5,d6,nF,gy⟩:=zv hd bR HFr f;have Mg:(((wr.setCell ⟨r,1,none⟩ (.slice none 0 0)).setCell ⟨r,2,none⟩ (.int .i64 (-1))).setCell ⟨r,3,none⟩ (.int .i64 (wrap64 (S.life+1)))).heap.size=G.heap.size:=(by simpa [World.setCell] using ef);have hm:more F w G=more F w (((wr.setCell ⟨r,1,none⟩ (.slice none 0 0)).setCell ⟨r,2,none⟩ (.int .i64 (-1))).setCell ⟨r,3,none⟩ (.int .i64 (wrap64 (S.life+1)))):=(by unfold more;rw [Mg]);rw [hm] at nF;have Hq:=(aF (show aB _ _ r t (S.il t l) from ⟨m,cl,W,_,_,nF⟩) gy);obtain⟨ap,cp,wW,_⟩:=hd.form;rw [wW] at d1;subst T;clear nF gy bR hd IS f ej az zt D hm Mg;go_wp2
     go_end0
     exact⟨rfl,Hq⟩
def LS (w:World) (lo:Nat) (l:List Int) (vs:List Value):Prop:=∀i,i<vs.length->∃g c,vs[i]? =some (.slice (some (aD g 0)) 512 c)/\lo<=g/\ay w 5 g c (bs (bI l i))
theorem CB {r:Nat} (b:w.heap[r]? =some (.cells (bG (.slice (some ⟨gl,0,none⟩) s cl) (.slice none 0 0) (-1) 1 0 0 0 0) 67 (0,0))) (e:ay w 36 gl cl vs) (Vt:vs.length=s) (wQ:LS w w0.heap.size l vs)
    (Pa:w0.heap.size<=r) (uD:w0.heap.size<=gl) (n:l.length=s*512) (j:1<=s) (m:s<=2048):aB w (λk=>w0.heap.size<=k/\k<w.heap.size) r s (DS.fresh l):=by
 refine⟨gl,cl,vs, .slice none 0 0, [],⟨Pa,(kN.1 b).1⟩,⟨uD,e.lt⟩,λk d=>d.2,b,e,Vt,λk d=>?_,World.ownsRow_nil _ _ _ _,by simp [Value.ownBlock],by simp [DS.fresh],⟨n,j,m,by simp [DS.fresh],by simp [DS.fresh]⟩⟩;obtain⟨g,c,f,i,a⟩:=wQ k (by omega);exact⟨g,c,f,⟨i,a.lt⟩,a⟩
theorem Vu (s:Int) (w:World) (h:s<1\/2048<s):
  Calls prog 44 #[iV s] w λe w'=>e= .returned (.tuple #[.pointer none,iV 10])/\w'=w:=by
 rcases h with h|h
 .go_in;go_wp2;go_ret2;exact⟨rfl,rfl⟩
 .have a:¬s<1:=by omega
  go_in;go_wp2;go_ret2;exact⟨rfl,rfl⟩
theorem qP (w:World):
  Calls prog 64 #[] w λe w'=>e= .returned (.slice (some (aD w.heap.size 0)) 512 512)/\ay w' 5 w.heap.size 512 (bs (List.replicate 512 0))/\bW w w':=by
 obtain⟨d,b,gv,dr,ec⟩:=info_parts fW;go_in;go_wp2_with (at_make;refine wpList_make_full _ rfl _ _ 36 rfl w.heap.size 5 d (.int .u8 0) 1 underlying36 b gv dr _ _ _ _ 512 rfl rfl (by omega) (by omega) (by rw [ec];omega) (by unfold maxLen;omega) (bP _) ?_);intro w1 az aO;have a:=(bi _ w).grown aO (bP _) (by intro k c;cases c);go_wp2;go_ret;exact⟨rfl,(yh (lJ (by simpa [Value.cells] using az))).out,a⟩
theorem Rj (s k:Nat) (a:k<s):bI (List.replicate (s*512) 0) k=List.replicate 512 0:=by
 unfold bI;rw [List.drop_replicate,List.take_replicate];congr 1;omega
theorem LS.snoc {a:Nat} (h:LS w a l vs) (m:∀b c ys,a<=b->ay w 5 b c ys->ay w' 5 b c ys) (n:a<=g) (p:ay w' 5 g c (bs (bI l vs.length))):LS w' a l (vs ++ [.slice (some (aD g 0)) 512 c]):=by
 intro i o;by_cases nj:i<vs.length
 .obtain⟨k,c',e,d,f⟩:=h i nj;exact⟨k,c',by rw [List.getElem?_append_left nj];exact e,d,m _ _ _ d f⟩
 .have j:i=vs.length:=by simp at o;omega
  subst j;exact⟨g,c,by simp,n,p⟩
theorem CC {r:Nat} {o:Obj} (Pa:w0.heap.size<=r) (aq:bW w0 w1) (bt:w1.heap[r]? =some (.cells (bG v (.slice none 0 0) (-1) 1 0 0 0 0) 67 (0,0)))
    (Rk:w1.ownsRow w0.heap.size 36 1 v j vs) (wQ:LS w1 w0.heap.size l vs) (f:w0.heap.size<=g) (i:ay w1 5 g cg (bs (bI l vs.length)))
    (aO:(w1.alloc o).grownBy w2 v.ownBlock) (az:w2.ownsRow w0.heap.size 36 1 (.slice (some (aD g2 0)) (j+1) bZ) (j+1) (vs ++ [.slice (some (aD g 0)) 512 cg])):
  w2.cell? (aD r 0)=some v/\w2.frozen? (aD r 0)=false/\
    (w2.setCell ⟨r,0,none⟩ (.slice (some ⟨g2,0,none⟩) (j+1) bZ)).heap[r]? =some (.cells (bG (.slice (some ⟨g2,0,none⟩) (j+1) bZ) (.slice none 0 0) (-1) 1 0 0 0 0) 67 (0,0))/\
    (w2.setCell ⟨r,0,none⟩ (.slice (some ⟨g2,0,none⟩) (j+1) bZ)).ownsRow w0.heap.size 36 1 (.slice (some (aD g2 0)) (j+1) bZ) (j+1) (vs ++ [.slice (some (aD g 0)) 512 cg])/\
  LS (w2.setCell ⟨r,0,none⟩ (.slice (some ⟨g2,0,none⟩) (j+1) bZ)) w0.heap.size l (vs ++ [.slice (some (aD g 0)) 512 cg])/\bW w0 (w2.setCell ⟨r,0,none⟩ (.slice (some ⟨g2,0,none⟩) (j+1) bZ))/\
    (∀b c ys,ay w1 5 b c ys->ay (w2.setCell ⟨r,0,none⟩ (.slice (some ⟨g2,0,none⟩) (j+1) bZ)) 5 b c ys):=by
 have Zi:(w1.alloc o).heap.size=w1.heap.size+1:=by simp
 have rE:=(kN.1 bt).1;have fb:=
    ((aO.block r (by omega) (λe=>dR Rk e.symm bt (by decide) rfl)).trans (Below.heap_alloc _ _ _ rE)).trans bt
 have au:∀b c ys,ay w1 5 b c ys->ay (w2.setCell ⟨r,0,none⟩ (.slice (some ⟨g2,0,none⟩) (j+1) bZ)) 5 b c ys:=λb c ys a=>by
  have d:=a.lt;have dG:=a.ne bt (by decide);have aW:=a;obtain⟨cur,ie,_⟩:=aW;exact a.agree ((Below.heap_setCell _ _ _ _ dG).trans ((aO.block b (by omega) (λe=>dR Rk e.symm ie (by decide) rfl)).trans (Below.heap_alloc _ _ _ d)))
 refine⟨aL fb,ae fb 0,?_,?_,wQ.snoc (λb c ys _ h=>au b c ys h) f (au _ _ _ i),?_,au⟩
 .rw [heap_setCell_same _ _ _ _ _ _ fb];simp [bG]
 .exact aC az (λb e=>Below.heap_setCell _ _ _ _ (dR az e fb (by decide)))
 .exact((aq.alloc aq.size o).grown aO (by have:=aq.size;omega) (λb e=>(Rk.lt b e).1)).setCell Pa _
theorem Vv (s:Nat) (w:World) (D:1<=s) (E:s<=2048):
  Calls prog 44 #[iV s] w λe w'=>∃r,e= .returned (.tuple #[pQ r,iV 0])/\aB w' (λk=>w.heap.size<=k/\k<w'.heap.size) r s (DS.fresh (List.replicate (s*512) 0))/\bW w w':=by
 obtain⟨J,rt,gv,dr,ec⟩:=info_parts td;have Yw:¬(s:Int)<1:=by omega
 have F:¬(2048:Int)<(s:Int):=by omega
 go_in;go_wp2_with (go_at_call 64;refine(qP w).mono ?_;rintro e w1 ⟨rfl,lG,aq⟩);have ef:=aq.size;have bt:(w1.alloc (.cells (bG (.slice none 0 0) (.slice none 0 0) (-1) 1 0 0 0 0) 67)).heap[w1.heap.size]? =some (.cells (bG (.slice none 0 0) (.slice none 0 0) (-1) 1 0 0 0 0) 67 (0,0)):=heap_alloc_new _ _;have kO:ay (w1.alloc (.cells (bG (.slice none 0 0) (.slice none 0 0) (-1) 1 0 0 0 0) 67)) 5 w.heap.size 512 (bs (List.replicate 512 0)):=lG.agree (Below.heap_alloc _ _ _ lG.lt);have bz:bW w (w1.alloc (.cells (bG (.slice none 0 0) (.slice none 0 0) (-1) 1 0 0 0 0) 67)):=aq.alloc ef _;have l:=yh (aF bt (aF kO bz));go_loopw [6] (λi wr=>∃j:Nat,j<=s/\i=iV (j:Int)/\∃v f,wr.heap[w1.heap.size]? =some (.cells (bG v (.slice none 0 0) (-1) 1 0 0 0 0) 67 (0,0))/\wr.ownsRow w.heap.size 36 1 v j f/\LS wr w.heap.size (List.replicate (s*512) 0) f/\
   ay wr 5 w.heap.size 512 (bs (List.replicate 512 0))/\bW w wr) (λi _=>s-(intOf i).toNat)
 case atStart=>exact⟨0,dU _,rfl, .slice none 0 0, [],l.o.1,World.ownsRow_nil _ _ _ _,λi G=>by simp at G,l.o.2.1,l.o.2.2⟩
 case round=>
  obtain⟨j,P,rfl,v,f,bt,az,wQ,d,b⟩:=hrel;have L:=aL bt;have Vt:f.length=j:=by simpa using az.1
  by_cases bm:j<s
  .have cw:(j:Int)<(s:Int):=(by omega);obtain⟨K,M,m⟩:∃a c,v= .slice a j c:=by
    obtain⟨_,⟨e,H⟩|⟨g,p,cur,e,_⟩⟩:=az
    .exact⟨none,0,by rw [e,H]⟩
    .exact⟨_,_,e⟩
   subst m;have I:=b.size;have bq:=yh az;go_wp2_with (at_builtin;refine wpList_append_own _ rfl _ _ 62 rfl w.heap.size 36 J (.slice none 0 0) 1 24 underlying62 rt gv dr ec rfl (by decide) _ _ _ rfl (bq.o.alloc _) (aD wr.heap.size 0) 1 1 [.slice (some (aD w.heap.size 0)) 512 512] rfl rfl (cell_one_new _ _ _) (by intro u n;simp at n;subst n;rfl) (by unfold maxLen;omega) (by omega) (by simp;omega) ?_);intro Q R cJ aO jx;obtain⟨C,bZ,rfl,_,_,_⟩:=ay.eW cJ (by rintro rfl;rcases cJ.2 with ⟨_,h⟩|⟨_,_,_,h,_⟩;omega;cases h);obtain⟨bt,az,wQ,d,b⟩:=(yh (aF bt (aF az (aF wQ (aF d b))))).out;obtain⟨N,O,q,t,x,y,z⟩:=CC ef b bt az wQ (bP _) (by rw [Vt,Rj s j bm];exact d) aO cJ;go_wp2;go_roundw;case rel=>exact⟨j+1,by omega,by go_num,_,_,(yh (aF q (aF t (aF x (aF (z _ _ _ d) y))))).out⟩
   case measure=>simp [intOf];omega
  .have cw:¬(j:Int)<(s:Int):=(by omega);have A:j=s:=(by omega);subst A;obtain⟨C,bZ,m,fU,fb,_⟩:=ay.eW az (by rintro rfl;rcases az.2 with ⟨_,h⟩|⟨_,_,_,h,_⟩;omega;cases h);rw [m] at bt;have jz:=CB (w0:=w) bt fb Vt wQ ef fU (by simp) D E;go_wp2;go_ret2;exact⟨_,rfl,(yh (aF jz b)).out⟩
theorem NI (a:Option Addr) (n c:Nat) (w:World) (h:n%512≠0):
  Calls prog 43 #[.slice a n c] w λe w'=>e= .returned (.tuple #[.pointer none,iV 2])/\w'=w:=by
 have b:(((n:Int)%512) != 0)=true:=by rw [fT];omega
 go_in;go_wp2;go_ret2;exact⟨rfl,rfl⟩
theorem Rl (a:Option Addr) (n c:Nat) (w:World) (i:n<=140737488355328) (h:n%512=0) (h0:n=0\/1048576<n):
  Calls prog 43 #[.slice a n c] w λe w'=>e= .returned (.tuple #[.pointer none,iV 10])/\w'=w:=by
 have f:(((n:Int)%512) != 0)=false:=by rw [Bool.eq_false_iff,ne_eq,fT];omega
 obtain⟨q,j⟩:∃q:Nat,((n:Int) / 512)=(q:Int):=⟨n / 512,by omega⟩;have d:wrap64 (q:Int)=(q:Int):=by unfold wrap64;omega
 rcases h0 with h0|h0
 .have b:(q:Int)<1:=by omega
  go_in;go_wp2;go_ret2;exact⟨rfl,rfl⟩
 .have b:¬(q:Int)<1:=by omega
  have g:2048<(q:Int):=by omega
  go_in;go_wp2;go_ret2;exact⟨rfl,rfl⟩
theorem Rm {b o:Nat} (h:∀i,i<n->w.cell? ⟨b,o+i,none⟩=some (.int .u8 (l.getD i 0))) (e:l.length=n) (d:k*512+512<=n):Src w (some ⟨b,o+k*512,none⟩) 512 (bI l k):=by
 refine⟨by simp [bI];omega,(λh=>by cases h),λx c i a=>?_⟩;cases c;rw [aK,Nat.add_assoc,h (k*512+i) (by omega)];simp [bI,List.getD,a]
set_option maxRecDepth 100000 in
theorem Rn (b o n c s:Nat) (l:List Int) (w:World) (R:∀i,i<n->w.cell? ⟨b,o+i,none⟩=some (.int .u8 (l.getD i 0))) (jT:l.length=n) (h:n=s*512) (iS:n<=c) (D:1<=s) (E:s<=2048):
  Calls prog 43 #[.slice (some (aD b o)) n c] w λe w'=>∃r,e= .returned (.tuple #[pQ r,iV 0])/\aB w' (λk=>w.heap.size<=k/\k<w'.heap.size) r s (DS.fresh l)/\bW w w':=by
 obtain⟨i0,rt,gv,dr,ec⟩:=info_parts td;have h':(((n:Int)%512) != 0)=false:=by rw [Bool.eq_false_iff,ne_eq,fT];omega
 have hq:((n:Int) / 512)=(s:Int):=by omega
 have Yw:¬(s:Int)<1:=by omega
 have h2':¬(2048:Int)<(s:Int):=by omega
 obtain⟨U,H⟩:=bL R h;clear R h;go_in;go_wp2;have bt:(w.alloc (.cells (bG (.slice none 0 0) (.slice none 0 0) (-1) 1 0 0 0 0) 67)).heap[w.heap.size]? =some (.cells (bG (.slice none 0 0) (.slice none 0 0) (-1) 1 0 0 0 0) 67 (0,0)):=heap_alloc_new _ _;have bz:bW w (w.alloc (.cells (bG (.slice none 0 0) (.slice none 0 0) (-1) 1 0 0 0 0) 67)):=(bi _ _).alloc (bP _) _;have A:=yh (aF bt bz);clear bt bz;go_loopw [6] (λi wr=>∃j:Nat,j<=s/\i=iV (j:Int)/\∃v z,wr.heap[w.heap.size]? =some (.cells (bG v (.slice none 0 0) (-1) 1 0 0 0 0) 67 (0,0))/\wr.ownsRow w.heap.size 36 1 v j z/\LS wr w.heap.size l z/\
   bW w wr) (λi _=>s-(intOf i).toNat)
 case atStart=>exact⟨0,dU _,rfl, .slice none 0 0, [],A.o.1,World.ownsRow_nil _ _ _ _,λi x=>by simp at x,A.o.2⟩
 case round=>
  clear A;obtain⟨j,hj,rfl,v,z,bt,az,wQ,d⟩:=hrel;have J:=aL bt;have Vt:z.length=j:=by simpa using az.1
  by_cases bm:j<s
  .have cw:(j:Int)<(s:Int):=(by omega);obtain⟨I,K,F⟩:∃a c,v= .slice a j c:=by
    obtain⟨_,⟨e,hn⟩|⟨g,Y,cur,e,_⟩⟩:=az
    .exact⟨none,0,by rw [e,hn]⟩
    .exact⟨_,_,e⟩
   subst F;have Ro:=H.o;have IV:j*512+512<=n:=(by omega);obtain⟨m,S⟩:∃m:Nat,m=j*512:=⟨_,rfl⟩;obtain⟨f,BZ⟩:∃f:Nat,f=m+512:=⟨_,rfl⟩;have x1:IntKind.i64.wrap ((j:Int)*512)=(m:Int):=(by rw [IntKind.wrap_i64];all_goals omega);have x2:IntKind.i64.wrap ((m:Int)+512)=(f:Int):=(by rw [IntKind.wrap_i64];all_goals omega);have x3:(f:Int)<=(c:Int):=(by omega);have x4:m<=f:=(by omega);have x5:¬c=m:=(by omega);have x6:f-m=512:=(by omega);have fJ:=Rm (λi x=>cell_later d (U.o i x)) jT IV;rw [<-S] at fJ;have rE:=(kN.1 bt).1;have y:=d.size;have Me:∀C,Calls prog 97 #[.slice (some ⟨b,o+m,none⟩) 512 C] wr.drew λe w'=>∃v,e= .returned v/\TwR wr (bI l j) v w':=λC=>
      (lH (some ⟨b,o+m,none⟩) 512 C (bI l j) wr.drew (by omega) fJ).mono (by rintro e w' ⟨g,rfl,D,E,u⟩;exact⟨_,rfl,g,rfl,D,E,⟨u.os,u.tape,u.output,u.size,u.block⟩⟩)
   have du:∀wx:World,wx.heap[w.heap.size]? =wr.heap[w.heap.size]?->wx.cell? (aD w.heap.size 0)=some (.slice I j K):=λwx e=>aL (e.trans bt);obtain⟨pS,t,q,bq,p,G⟩:=Yu du Me bt az wQ d;clear bt wQ d az Me du fJ Ro S BZ;go_wp2_with fail
   go_region_law
    (first
     |(refine u9 (by rfl) 97 #[.slice (some ⟨b,o+m,none⟩) 512 (c-m)] (by simp [go_sem]) (TwR wr (bI l j)) (t.o _) ?_;rintro _ w1 ⟨g,rfl,hg,T,aq⟩;have lG:w1.heap[w.heap.size]? =wr.heap[w.heap.size]? :=aq.block w.heap.size rE;have k1:=pS.o w1 lG;have k2:=λo=>pS.o (w1.alloc o) ((Below.heap_alloc w1 o w.heap.size (iP rE aq.size)).trans lG))
     |(refine step_append_lies _ (by rfl) _ _ _ (by rfl) w.heap.size 36 i0 _ 1 24 underlying62 rt gv dr ec rfl (by omega) (.slice I j K) j z (by rfl) (aC bq.o (λg e=>(Below.heap_alloc w1 _ _ (iP (bq.o.lt g e).2 aq.size)).trans (aq.block g (bq.o.lt g e).2)))
         (aD w1.heap.size 0) 1 1 [.slice (some (aD g 0)) 512 512] (by rfl) (by rfl) (cell_one_new _ _ _) (by simp [Value.oneCell']) (by omega) (by unfold maxLen;omega) (by omega) (by have:=aq.size;simp;omega) (w1.heap.size+1) (by simp) ?_;intro g2 bZ w2 fE jU uL oS
       obtain⟨Z,d2,L,M,N,O,d7⟩:=CC (bP _) (G.o.trans (aq.mono y)) (lG.trans q.o) (aC bq.o (λg e=>aq.block g (bq.o.lt g e).2)) (λi x=>by obtain⟨Q,c',e1,e2,P⟩:=p.o i x;exact⟨Q,c',e1,e2,P.agree (aq.block Q P.lt)⟩) (jQ y hg) (by rw [Vt];exact T) jU fE))
   all_goals
    have X:=yh (aF L (aF M (aF N O)));clear L M N O d7 T aq fE jU uL oS lG k1 k2 Z d2 q bq p G t pS J x1 x2 x3 x4 x5 x6;go_wp2;go_roundw;case rel=>exact⟨j+1,by omega,by go_num,_,_,X.o⟩
    case measure=>simp [intOf];omega
  .have cw:¬(j:Int)<(s:Int):=(by omega);have ej:j=s:=(by omega);subst ej;obtain⟨g2,bZ,F,fU,fb,_⟩:=ay.eW az (by rintro rfl;rcases az.2 with ⟨_,h⟩|⟨_,_,_,h,_⟩;omega;cases h);rw [F] at bt;have jz:=CB (w0:=w) bt fb Vt wQ (bP _) fU (by have:=H.o;omega) D E;have W:=yh (aF jz d);clear bt az wQ d fb jz J;go_wp2;go_ret2;exact⟨_,rfl,W.o⟩
theorem Rq (j:Nat):im.take (j*512) ++ bI im j=im.take ((j+1)*512):=by
 unfold bI;rw [show (j+1)*512=j*512+512 by omega,List.take_add]
theorem Kd {r:Nat} (hd:aB w F r s S):
  Calls prog 34 #[pQ r] w λe w'=>∃g c,e= .returned (.slice (some (aD g 0)) (s*512) c)/\w.heap.size<=g/\ay w' 5 g c (bs S.im)/\bW w w':=by
 obtain⟨gl,Y,ls,pv,xs,h⟩:=hd;obtain⟨K,I,gv,dr,ec⟩:=info_parts fW;obtain⟨M,km,l,H⟩:=cM (aL h.dj) h.ok.hi h.ok.len (yh h);clear h;obtain⟨m,z⟩:∃m:Nat,m=s*512:=⟨_,rfl⟩;have X:IntKind.i64.wrap ((s:Int)*512)=(m:Int):=by rw [IntKind.wrap_i64];all_goals omega
 have C:wrap64 ((s:Int)*512)=(m:Int):=by unfold wrap64;omega
 rw [<-z] at l⊢;have n:=yh z;have ao4:m<=1048576:=by omega
 clear z;go_in;go_wp2_with (at_make;refine wpList_make_own _ rfl _ _ 36 rfl w.heap.size 5 K (.int .u8 0) 1 underlying36 I gv dr _ _ _ m rfl rfl ?c1 ?c2 ?c3 (bP _) ?_);case c1=>first|rfl|omega
 case c2=>rw [ec];omega
 case c3=>unfold maxLen;omega
 intro w1 az aO;have a:=(bi _ w).grown aO (bP _) (by intro k d;cases d);have p:=yh (aF az a);clear az aO a X C;go_wp2;go_loopw [3,4] (λv i wr=>∃j:Nat,j<=s/\i=iV (j:Int)/\∃q,v= .slice (some (aD q 0)) (j*512) m/\w.heap.size<=q/\wr.ownsRow w.heap.size 5 1 v (j*512) (bs (S.im.take (j*512)))/\bW w wr) (λ_ i _=>s-(intOf i).toNat);case atStart=>exact⟨0,dU _,rfl,_,rfl,bP _,p.o.1,p.o.2⟩
 case round=>
  clear p;obtain⟨j,hj,rfl,q,rfl,J,az,a⟩:=hrel;have O:=cell_later a M;by_cases bm:j<s
  .have cw:(j:Int)<(s:Int):=(by omega);obtain⟨g,c,U,hF,A⟩:=H.o.zl j bm;have N:=cell_later a (H.o.last.cell U);have I1:(bI S.im j).length=512:=(by have:=n.o;simp [bI];omega);have kP:=(A.agree (a.block g A.lt)).src;rw [I1] at kP;obtain⟨k,d⟩:=bQ (j*512);have y:k+512<=m:=(by have:=n.o;omega);have b:(j+1)*512=k+512:=(by omega);rw [<-d] at az;have pz:bs (S.im.take k) ++ bs (bI S.im j)=bs (S.im.take (k+512)):=(by rw [<-b,<-Rq,<-d];simp [bs]);rw [<-d];obtain⟨bq,f,D,U3⟩:=Bg az kP b pz;clear az kP A d b pz;go_wp2_with (at_builtin;refine wpList_append_fits _ rfl _ _ 36 rfl w.heap.size 5 K 1 underlying36 I dr q k m (bs (S.im.take k)) rfl bq.o (aD g 0) 512 c (bs (bI S.im j)) rfl (by simp [bs,I1]) (λt u Q=>by obtain⟨h1,rfl⟩:=fq Q;exact f.o.2.2 _ rfl t (by omega)) (cB _) y ?_);intro W az aO;have bz:=a.grown aO a.size (by intro x T;cases T;exact J);have az:W.ownsRow w.heap.size 5 1 (.slice (some (aD q 0)) (k+512) m) (k+512) (bs (S.im.take (k+512))):=by
    have G:=U3.o;simp only [bs,List.map_take] at G az⊢;rw [G] at az;exact az
   have E:=yh (aF az bz);clear az aO bz bq f U3 a N O;go_wp2;go_roundw;case rel=>exact⟨j+1,by omega,by go_num,q,by rw [D.o],J,by rw [D.o];exact E.o.1,E.o.2⟩
   case measure=>simp [intOf];omega
  .have cw:¬(j:Int)<(s:Int):=(by omega);have P:j=s:=(by omega);subst P;rw [<-n.o,nh (by omega)] at az;obtain⟨Z,bZ,R,fU,fb,_⟩:=ay.eW az (by rintro h;cases h);have L:=yh (aF fU (aF fb a));rw [<-n.o];cases R;clear az fb a fU;go_wp2;go_ret;exact⟨_,_,rfl,L.o⟩
theorem aB.more {r:Nat} (h:aB w' F r s S):aB w' (more F w w') r s S:=by
 obtain⟨c,b,d,e,xs,h⟩:=h;exact⟨c,b,d,e,xs,h.mono (λ_ a=> .inl a) (λk a=>by rcases a with a|a;exact h.lt k a;exact a.2)⟩
theorem it (h:aB w F p s S) (x:Int) (a:Option Addr) (n c:Nat) (l:List Int) (m:Src w a n l) (aT:S.puts.length+1<=4000000000000):
  Calls prog 63 #[pQ p,iV x, .slice a n c] w λe w'=>e= .returned (iV (S.wr s x n l).1)/\aB w' (more F w w') p s (S.wr s x n l).2/\aa F w w':=by
 by_cases b:S.fuse=0
 .simp only [DS.wr,b,if_true];refine(Gm h x a n c b).mono ?_;rintro e w' ⟨rfl,rfl⟩;exact⟨rfl,h.more,aa.refl _ _⟩
 .by_cases d:x<0\/(s:Int)<=x
  .simp only [DS.wr,b,if_false,d,if_true];refine(DY h x a n c b d).mono ?_;rintro e w' ⟨rfl,f,g⟩;exact⟨rfl,f.more,g⟩
  .obtain⟨k,rfl⟩:∃k:Nat,x=(k:Int):=⟨x.toNat,by omega⟩;have j:k<s:=(by omega);by_cases i:n=512
   .subst i;simp only [DS.wr,b,if_false,d,ne_eq,not_true_eq_false,Int.toNat_natCast];obtain⟨y,rfl⟩:∃y,a=some y:=by
     cases a with
     |none=>have:=m.2.1 rfl;omega
     |some y=>exact⟨y,rfl⟩
    exact NC h k j b aT y c l m
   .simp only [DS.wr,b,if_false,d,ne_eq,i,not_false_eq_true,if_true];refine(By h k a n c b j i).mono ?_;rintro e w' ⟨rfl,f,g⟩;exact⟨rfl,f.more,g⟩
theorem fw (h:aB w F p s S) (aT:S.puts.length+1<=4000000000000):
  Calls prog 65 #[pQ p] w λe w'=>e= .returned (iV (S.fl s).1)/\aB w' F p s (S.fl s).2/\aa F w w':=by
 by_cases a:S.fuse=0
 .simp only [DS.fl,a,if_true];refine(Gp h a).mono ?_;rintro e w' ⟨rfl,rfl⟩;exact⟨rfl,h,aa.refl _ _⟩
 .simp only [DS.fl,a,if_false];exact NF h a (by omega)
theorem Ke {r:Nat} (hd:aB w F r s S) (aT:S.puts.length+1<=4000000000000) (a:Option Addr) (n c:Nat) (l:List P3) (Dt:kS w a n l) (b:n<=140737488355328):
  Calls prog 30 #[pQ r, .slice a n c] w λe w'=>e= .returned (.tuple #[])/\aB w' (more F w w') r s (S.il s l)/\aa F w w':=by
 by_cases d:S.puts.length=0
 .exact Gr hd d a n c l
 .exact Gs hd (by omega) aT a n c l Dt b
structure Two (w:World) (B:Nat) (F G:Nat->Prop) (p r s:Nat) (S T:DS):Prop where
 d:aP w F p s S
 e:aB w G r s T
 lo:B<=w.heap.size
 fF:∀k,F k->B<=k
 fG:∀k,G k->B<=k
 fD:∀k,F k->¬G k
theorem Two.begin {B r:Nat} (g:B<=w0.heap.size) (aq:bW w0 w1) (hd:aP w1 F p s S) (c:∀k,F k->w0.heap.size<=k) (aW:bW w1 w2) (d:aB w2 G r s S) (b:∀k,G k->w1.heap.size<=k):Two w2 B F G p r s S S:=
   ⟨hd.au (aa.ah (λ_=>False) aW) (λ_ _ h=>h),d,by have:=aq.size;have:=aW.size;omega,λk a=>by have:=c k a;omega,λk a=>by have:=b k a;have:=aq.size;omega,λk e f=>by have:=hd.lt k e;have:=b k f;omega⟩
def kI (w w':World) (B:Nat) (l:List Int) (d r:Value):Prop:=bW w w'/\((d= .pointer none/\r= .pointer none)\/∃F G p q s im,d=pQ p/\r=pQ q/\Two w' B F G p q s (DS.fresh im) (DS.fresh im)/\(im=l\/∃m,im=List.replicate m 0)/\(∀k,F k->w.heap.size<=k)/\(∀k,G k->w.heap.size<=k))
theorem NJ (bI:Int) (a:Option Addr) (n c:Nat) (l:List Int) (w:World) (B:Nat) (i:Src w a n l) (f:n<=140737488355328) (h:n%512≠0):
  Calls prog 15 #[iV bI, .slice a n c] w λe w'=>∃d r,e= .returned (.tuple #[d,r, .bool true])/\kI w w' B l d r:=by
 have h0:(0:Int)<(n:Int):=by omega
 go_in;go_wp2_with fail;refine(tf a n c l w f i).mono ?_;rintro e w1 ⟨g,rfl,k,m,aq⟩;go_wp2_with fail;refine(PE (some (aD g 0)) n n w1 h f).mono ?_;rintro e j ⟨rfl,b⟩;have ez:=b.symm;subst ez;go_wp2_with fail;refine(NI a n c w1 h).mono ?_;rintro e j ⟨rfl,b⟩;have ez:=b.symm;subst ez;go_wp2;go_ret3;exact⟨_,_,rfl,aq, .inl ⟨rfl,rfl⟩⟩
theorem Rr (bI:Int) (a:Option Addr) (n c:Nat) (l:List Int) (w:World) (B:Nat) (j:Src w a n l) (b:n<=140737488355328) (h:n%512=0) (i:1048576<n):
  Calls prog 15 #[iV bI, .slice a n c] w λe w'=>∃d r,e= .returned (.tuple #[d,r, .bool true])/\kI w w' B l d r:=by
 go_in;go_wp2_with fail;refine(tf a n c l w b j).mono ?_;rintro e w1 ⟨g,rfl,m,o,aq⟩;go_wp2_with fail;refine(UG (some (aD g 0)) n n w1 h (.inr i) b).mono ?_;rintro e k ⟨rfl,f⟩;have ez:=f.symm;subst ez;go_wp2_with fail;refine(Rl a n c w1 b h (.inr i)).mono ?_;rintro e k ⟨rfl,f⟩;have ez:=f.symm;subst ez;go_wp2;go_ret3;exact⟨_,_,rfl,aq, .inl ⟨rfl,rfl⟩⟩
theorem Kf (bI:Int) (b o n c s:Nat) (l:List Int) (w:World) (B:Nat) (G:B<=w.heap.size) (f:Src w (some (aD b o)) n l) (v:∀i,i<n->w.cell? ⟨b,o+i,none⟩=some (.int .u8 (l.getD i 0))) (iS:n<=c) (h:n=s*512) (t:1<=s) (u:s<=2048):
  Calls prog 15 #[iV bI, .slice (some (aD b o)) n c] w λe w'=>∃d r,e= .returned (.tuple #[d,r, .bool true])/\kI w w' B l d r:=by
 have h0:(0:Int)<(n:Int):=by omega
 have jT:=f.1;have C:=tf (some (aD b o)) n c l w (by omega) f;have j:=yh v;have q:=yh h;have iZ:n<=1048576:=by omega
 clear f v h;go_in;go_wp2_with fail;refine C.mono ?_;rintro e w1 ⟨g,rfl,H,A,aq⟩;have z:=UH (aD g 0) n n s l w1 q.o t u jT (λi y=>A.byte (by omega));clear A C;go_wp2_with fail;refine z.mono ?_;rintro e E ⟨p,rfl,hd,aW⟩;have Vw:=aq.trans (aW.mono aq.size);have m:=yh hd;clear z hd;go_wp2_with fail;refine(Rn b o n c s l E (λi y=>cell_later Vw (j.o i y)) jT q.o iS t u).mono ?_;rintro e F ⟨r,rfl,x,bz⟩;have ef:=aq.size;have bo:=aW.size;have D:Yh (kI w F B l (pQ p) (pQ r)):=⟨Vw.trans (bz.mono Vw.size), .inr ⟨_,_,p,r,s,_,rfl,rfl,Two.begin (B:=B) (by omega) aW m.o (λk a=>a.1) bz x (λk a=>a.1), .inl rfl,λk a=>by have:=a.1;omega,λk a=>by have:=a.1;omega⟩⟩;clear x bz Vw aW aq m j;go_wp2;go_ret3;exact⟨_,_,rfl,D.o⟩
theorem NK (bI:Int) (l:List Int) (a:Option Addr) (c:Nat) (w:World) (B:Nat) (h:bI<1\/2048<bI):
  Calls prog 15 #[iV bI, .slice a 0 c] w λe w'=>∃d r,e= .returned (.tuple #[d,r, .bool true])/\kI w w' B l d r:=by
 go_in;go_wp2_with fail;refine(Yv bI w h).mono ?_;rintro e f ⟨rfl,b⟩;have ez:=b.symm;subst ez;go_wp2_with fail;refine(Vu bI w h).mono ?_;rintro e f ⟨rfl,b⟩;have ez:=b.symm;subst ez;go_wp2;go_ret3;exact⟨_,_,rfl,bi _ _, .inl ⟨rfl,rfl⟩⟩
theorem NL (s:Nat) (l:List Int) (a:Option Addr) (c:Nat) (w:World) (B:Nat) (j:B<=w.heap.size) (f:1<=s) (g:s<=2048):
  Calls prog 15 #[iV (s:Int), .slice a 0 c] w λe w'=>∃d r,e= .returned (.tuple #[d,r, .bool true])/\kI w w' B l d r:=by
 go_in;go_wp2_with fail;refine(PD s w f g).mono ?_;rintro e n ⟨p,rfl,hd,aW⟩;go_wp2_with fail;refine(Vv s n f g).mono ?_;rintro e o ⟨r,rfl,m,bz⟩;have bo:=aW.size;have i:(kI w o B l (pQ p) (pQ r)):=⟨aW.trans (bz.mono aW.size), .inr ⟨_,_,p,r,s,_,rfl,rfl,Two.begin j aW hd (λk b=>b.1) bz m (λk b=>b.1), .inr ⟨_,rfl⟩,λk b=>b.1,λk b=>by have:=b.1;omega⟩⟩;go_wp2;go_ret3;exact⟨_,_,rfl,i⟩
theorem NM (bI:Int) (a:Option Addr) (n c:Nat) (l:List Int) (w:World) (B:Nat) (g:B<=w.heap.size) (f:Src w a n l) (i:n<=140737488355328) (iS:n<=c):
  Calls prog 15 #[iV bI, .slice a n c] w λe w'=>∃d r,e= .returned (.tuple #[d,r, .bool true])/\kI w w' B l d r:=by
 by_cases h0:n=0
 .subst h0;by_cases h:bI<1\/2048<bI
  .exact NK bI l a c w B h
  .obtain⟨s,rfl⟩:∃s:Nat,bI=(s:Int):=⟨bI.toNat,by omega⟩;exact NL s l a c w B g (by omega) (by omega)
 .by_cases h:n%512=0
  .by_cases j:1048576<n
   .exact Rr bI a n c l w B f i h j
   .obtain⟨x,rfl⟩:∃x,a=some x:=by
     cases a with
     |none=>exact absurd (f.2.1 rfl) h0
     |some x=>exact⟨x,rfl⟩
    obtain⟨b,o,rfl,k⟩:=f.spot (by omega);exact Kf bI b o n c (n / 512) l w B g f k iS (by omega) (by omega) (by omega)
  .exact NJ bI a n c l w B f i h
section
section
variable {w w':World} {F G:Nat->Prop} {r s k:Nat} {S:DS} {L:LG}
theorem aB.later (h:aB w F r s S) (a:bW w w'):aB w' F r s S:=h.au (aa.ah (λ_=>False) a) (λ_ _ h=>h)
theorem aB.mono (h:aB w F r s S) (c:∀k,F k->G k) (d:∀k,G k->k<w.heap.size):aB w G r s S:=by
 obtain⟨b,a,e,f,xs,h⟩:=h;exact⟨b,a,e,f,xs,h.mono c d⟩
theorem CD (h:aB w F r s S) (f n:Int):
  Calls prog 116 #[pQ r,iV f,iV n] w λe w'=>e= .returned (iV (cq S s f n))/\w'=w:=by
 have p:=h.ok.hi;have c:=mv h;have b:=j3 h;unfold cq;by_cases d:S.fuse=0
 .rw [show (S.fuse == 0)=true by simp [d]] at b;rw [aE d];go_in;go_wp2_with (first|(go_at_call 11;refine c.mono ?_;rintro e w' ⟨rfl,a⟩;subst a)|(go_at_call 36;refine b.mono ?_;rintro e w' ⟨rfl,a⟩;subst a));go_ret;exact⟨rfl,rfl⟩
 .rw [show (S.fuse == 0)=false by simp [d]] at b;rw [aA d];by_cases g:f<0\/(s:Int)<=f
  .rw [aE g];by_cases k:f<0
   .clear g;go_in;go_wp2_with (first|(go_at_call 11;refine c.mono ?_;rintro e w' ⟨rfl,a⟩;subst a)|(go_at_call 36;refine b.mono ?_;rintro e w' ⟨rfl,a⟩;subst a));go_ret;exact⟨rfl,rfl⟩
   .have l:(s:Int)<=f:=(by omega);go_in;go_wp2_with (first|(go_at_call 11;refine c.mono ?_;rintro e w' ⟨rfl,a⟩;subst a)|(go_at_call 36;refine b.mono ?_;rintro e w' ⟨rfl,a⟩;subst a));go_ret;exact⟨rfl,rfl⟩
  .rw [aA g];have k:¬f<0:=(by omega);have l:¬(s:Int)<=f:=(by omega);by_cases i:n<18\/256<n
   .rw [aE i];by_cases m:n<18
    .clear i;go_in;go_wp2_with (first|(go_at_call 11;refine c.mono ?_;rintro e w' ⟨rfl,a⟩;subst a)|(go_at_call 36;refine b.mono ?_;rintro e w' ⟨rfl,a⟩;subst a));go_ret;exact⟨rfl,rfl⟩
    .have o:256<n:=(by omega);go_in;go_wp2_with (first|(go_at_call 11;refine c.mono ?_;rintro e w' ⟨rfl,a⟩;subst a)|(go_at_call 36;refine b.mono ?_;rintro e w' ⟨rfl,a⟩;subst a));go_ret;exact⟨rfl,rfl⟩
   .rw [aA i];have m:¬n<18:=(by omega);have o:¬256<n:=(by omega);by_cases j:(s:Int)<f+2+n
    .rw [aE j];go_in;go_wp2_with (first|(go_at_call 11;refine c.mono ?_;rintro e w' ⟨rfl,a⟩;subst a)|(go_at_call 36;refine b.mono ?_;rintro e w' ⟨rfl,a⟩;subst a));go_ret;exact⟨rfl,rfl⟩
    .rw [aA j];go_in;go_wp2_with (first|(go_at_call 11;refine c.mono ?_;rintro e w' ⟨rfl,a⟩;subst a)|(go_at_call 36;refine b.mono ?_;rintro e w' ⟨rfl,a⟩;subst a));go_ret;exact⟨rfl,rfl⟩
abbrev lrC (r:Nat) (L:LG):Array Value:= #[pQ r,iV L.life,iV (L.f:Int),iV (L.n:Int),iV (L.ep:Int),iV (L.tail:Int),iV (L.head:Int),iV (L.top:Int), .bool L.begun]
def cH (w:World) (k r:Nat) (L:LG):Prop:=w.heap[k]? =some (.cells (lrC r L) 200 (0,0))
theorem cH.lt (h:cH w k r L):k<w.heap.size:=aw h
theorem cH.au (h:cH w k r L) (a:aa G w w') (b:¬G k):cH w' k r L:=(a.block k h.lt b).trans h
theorem cH.later (h:cH w k r L) (a:bW w w'):cH w' k r L:=(a.block k h.lt).trans h
theorem cH.c0 (h:cH w k r L):w.cell? (aD k 0)=some (pQ r):=aL h
theorem cH.c1 (h:cH w k r L):w.cell? (aD k 1)=some (iV L.life):=bD h
theorem cH.c2 (h:cH w k r L):w.cell? (aD k 2)=some (iV (L.f:Int)):=bH h
theorem cH.c3 (h:cH w k r L):w.cell? (aD k 3)=some (iV (L.n:Int)):=fI h
theorem cH.c4 (h:cH w k r L):w.cell? (aD k 4)=some (iV (L.ep:Int)):=gz h
theorem cH.c5 (h:cH w k r L):w.cell? (aD k 5)=some (iV (L.tail:Int)):=rU h
theorem cH.c6 (h:cH w k r L):w.cell? (aD k 6)=some (iV (L.head:Int)):=wG h
theorem cH.c7 (h:cH w k r L):w.cell? (aD k 7)=some (iV (L.top:Int)):=ri h
theorem cH.c8 (h:cH w k r L):w.cell? (aD k 8)=some (.bool L.begun):=Dg h
theorem cH.fz (h:cH w k r L) (j:Nat):w.frozen? (aD k j)=false:=ae h j
theorem vd (h:aB w F r s S) (b:cH w k r L):
  Calls prog 169 #[pQ k] w λe w'=>e= .returned (.bool (L.dead S))/\bW w w':=by
 have a:=λn=>j3 (h.later (below_drewN (bi w.heap.size w) n));have c:=λn=>nE (h.later (below_drewN (bi w.heap.size w) n));have d:=b.c0;have f:=b.c1;unfold LG.dead;by_cases q:S.fuse=0
 .rw [show (S.fuse == 0)=true by simp [q]] at a⊢;go_in;go_wp2_with fail;go_quiet ((go_at_call 36;exact Calls.quiet_of_same (a _)));go_wp2;go_ret;exact⟨rfl,below_drewN (bi _ _) _⟩
 .rw [show (S.fuse == 0)=false by simp [q]] at a⊢;go_in;go_wp2_with fail;go_quiet (first|(go_at_call 36;exact Calls.quiet_of_same (a _))|(go_at_call 23;exact Calls.quiet_of_same (c _)));go_wp2;go_ret;exact⟨rfl,below_drewN (bi _ _) _⟩
theorem lP (h:aB w F r s S) (f:cH w k r L):
  Calls prog 172 #[pQ k] w λe w'=>e= .returned (iV (L.bd S))/\bW w w':=by
 have a:=vd h f;unfold LG.bd;have c:=yh f;cases hd:L.dead S
 .rw [hd] at a;cases d:L.begun
  .rw [aA (by decide),aA (by decide)];go_in;go_wp2_with fail;refine bE a λw' eC=>?_;have b:=(c.o.later eC).c8;rw [d] at b;go_wp2;go_ret;exact⟨rfl,(yh eC).out⟩
  .rw [aA (by decide),aE rfl];go_in;go_wp2_with fail;refine bE a λw' eC=>?_;have b:=(c.o.later eC).c8;rw [d] at b;go_wp2;go_ret;exact⟨rfl,(yh eC).out⟩
 .rw [hd] at a;rw [aE rfl];go_in;go_wp2_with fail;refine bE a λw' eC=>?_;go_wp2;go_ret;exact⟨rfl,(yh eC).out⟩
theorem NN (h:aB w F r s S) (a:cH w k r L) (c:L.Ok s):
  Calls prog 141 #[pQ k] w λe w'=>e= .returned (.tuple #[iV (L.room S).1,iV (L.room S).2])/\bW w w':=by
 obtain⟨f,g,i,j,l⟩:=ey (lP h a) c.n2 c.th c.hi c.hn;unfold LG.room;generalize L.bd S=U at*;by_cases q:U=0
 .subst q;rw [aA (by decide)];go_in;go_wp2_with fail;refine bE f λw1 b=>?_;have a:=(yh a).out.later b;obtain⟨m,n,o⟩:=jw a.c3 a.c5 a.c6;go_wp2_with fail;try go_quiet (fail)
  go_wp2;go_ret2;exact⟨rfl,below_drewN (yh b).out _⟩
 .rw [aE q];have d:(U == 0)=false:=by rw [eG];exact q
  go_in;go_wp2_with fail;refine bE f λw1 b=>?_;go_wp2;go_ret2;exact⟨rfl,(yh b).out⟩
theorem Gu (h:aB w F r s S) (aT:S.puts.length+1<=4000000000000):
  Calls prog 65 #[pQ r] w λe w'=>e= .returned (iV (S.fl s).1)/\aB w' F r s (S.fl s).2/\aa F w w':=by
 exact fw h aT
theorem CE (h:aB w F r s S) (b:cH w k r L) (i:¬F k) (aT:S.puts.length+1<=4000000000000):
  Calls prog 129 #[pQ k] w λe w'=>e= .returned (iV (L.sync S s).1)/\aB w' F r s (L.sync S s).2/\cH w' k r L/\aa F w w':=by
 have g:=lP h b;have f:=yh b;have c:=yh h;unfold LG.sync;generalize L.bd S=U at*;by_cases q:U=0
 .subst q;rw [aA (by decide)];go_in;go_wp2_with fail;refine bE g λw1 a=>?_;have b:=f.o.later a;have j:=b.c0;go_wp2_with fail;refine(Gu (c.o.later a) aT).mono ?_;rintro e l ⟨rfl,cC,aX⟩;go_wp2;go_ret;exact⟨rfl,(yh (aF cC (aF ((yh b).out.au aX i) ((yh (aa.ah F a)).out.trans aX (λ_ h=> .inl h))))).out⟩
 .rw [aE q];have d:(U == 0)=false:=by rw [eG];exact q
  go_in;go_wp2_with fail;refine bE g λw1 a=>?_;go_wp2;go_ret;exact⟨rfl,(yh (aF (c.o.later a) (aF (f.o.later a) (aa.ah F a)))).out⟩
end
end
section
open Go.ChangeMaps (setBlock heap_setBlock_same heap_setBlock_other)
def Ra (v:Value):Option (DataW Value×List MemPlace):=
 match v with
 | .agg _=>some (.held v, [])
 |_=>none
theorem DZ {d:DataW Value} {ps:List MemPlace} (h:Ra v=some (d,ps)):d= .held v/\ps= []:=by
 unfold Ra at h;split at h
 .simp only [Option.some.injEq,Prod.mk.injEq] at h;exact⟨h.1.symm,h.2.symm⟩
 .cases h
abbrev cV (c:List Int):Value:= .agg (bs c).toArray
def acY:Option (List Int)->Value
 |some c=>cV c
 |none=> .agg bh
theorem tS {b:Value} (h:(DataW.held a:DataW Value)= .held b):a=b:=by injection h
theorem zw {b:Value} (x:Bool) (w:World) (h:a=b):(Result.ok (Value.tuple #[a, .bool x]) w:Result Value)= .ok (.tuple #[b, .bool x]) w:=by rw [h]
theorem Mh:(prog.info? 101).map (λi=>(i.zero,i.size))=some (some (.agg bh),512):=by kernel_rfl
theorem je (w:World):(zeroValue 101).run prog w= .ok (.agg bh) w:=by
 obtain⟨i,b,a⟩:=Option.map_eq_some_iff.1 Mh;simp only [Prod.mk.injEq] at a;simp [zeroValue,typeInfo,b,a.1]
structure ve (w:World) (m:Nat) (ms:CM) (D:DataW Value):Prop where
 own:w.ownsMap prog 3 Ra m ms.length D
 siz:Maps.size D=ms.length
 key:∀kl,Maps.has D kl=true->∃k:Nat,kl=kk k/\(CM.get ms k).isSome=true
 MX:∀k c,CM.get ms k=some c->Maps.has D (kk k)=true/\∀z,D.atKey (kk k) z= .held (cV c)
 no:∀k,CM.get ms k=none->Maps.has D (kk k)=false/\∀z,D.atKey (kk k) z=z
 ok:CM.Ok ms
 len:∀q∈ms,q.1<2048/\q.2.length=512/\Bytes q.2
def Ch (w:World) (m:Nat) (ms:CM):Prop:=∃D,ve w m ms D
section
variable {w w':World} {m:Nat} {ms:CM} {D:DataW Value}
theorem Rt {a b:Nat} (h:kk a=kk b):a=b:=by
 unfold kk at h;injection h with _ h;omega
theorem zx (h:w.ownsMap prog 3 Ra m n D) (e:w'.heap[m]? =w.heap[m]?):w'.ownsMap prog 3 Ra m n D:=by
 obtain⟨b,a,c,d⟩:=h;exact⟨b,a,e.trans c,d⟩
theorem ve.agree (h:ve w m ms D) (a:w'.heap[m]? =w.heap[m]?):ve w' m ms D:=⟨zx h.own a,h.siz,h.key,h.MX,h.no,h.ok,h.len⟩
theorem ve.lt (h:ve w m ms D):m<w.heap.size:=h.own.lt
theorem Ch.lt (h:Ch w m ms):m<w.heap.size:=by obtain⟨D,h⟩:=h;exact h.lt
theorem Ch.ok (h:Ch w m ms):CM.Ok ms:=by obtain⟨D,h⟩:=h;exact h.ok
theorem Ch.len (h:Ch w m ms):∀q∈ms,q.1<2048/\q.2.length=512/\Bytes q.2:=by obtain⟨D,h⟩:=h;exact h.len
theorem Ch.agree (h:Ch w m ms) (a:w'.heap[m]? =w.heap[m]?):Ch w' m ms:=by obtain⟨D,h⟩:=h;exact⟨D,h.agree a⟩
theorem Ch.au (h:Ch w m ms) (a:aa G w w') (b:¬G m):Ch w' m ms:=h.agree (a.block m h.lt b)
theorem Ch.later (h:Ch w m ms) (a:bW w w'):Ch w' m ms:=h.agree (a.block m h.lt)
theorem Ch.made (w:World):Ch (w.alloc (.map #[] 0)) w.heap.size []:=
   ⟨.map [],World.ownsMap_made w _ _ _,rfl,(λb h=>by simp [Maps.has] at h),(λk c h=>by cases h),(λk _=>⟨rfl,λz=>rfl⟩),List.Pairwise.nil,(λq a=>by cases a)⟩
theorem CM.length_le:∀{ms:CM} {n:Nat},CM.Ok ms->(∀q∈ms,q.1<n)->(∀a,(∀q∈ms,a<=q.1)->ms.length+a<=n\/ms= [])
 | [],_,_,_,_,_=> .inr rfl
 |q :: qs,n,ho,hl,a,ha=>by
  have p:=List.pairwise_cons.1 ho;have c:=hl q List.mem_cons_self;have d:=ha q List.mem_cons_self;rcases CM.length_le (n:=n) p.2 (λx b=>hl x (List.mem_cons_of_mem _ b)) (q.1+1) (λx b=>p.1 x b) with h|h
  .left;rw [List.length_cons];omega
  .left;rw [h];simp only [List.length_cons,List.length_nil];omega
theorem Ch.small (h:Ch w m ms):ms.length<=2048:=by
 rcases CM.length_le h.ok (λq b=>(h.len q b).1) 0 (λ_ _=>dU _) with a|a
 .omega
 .rw [a];exact dU _
theorem Ch.look (h:Ch w m ms) (k:Nat) (g:k<2048):
    (Instr.lookup 93 (.map (some m)) (iV (k:Int)) true).run prog w= .ok (.tuple #[acY (CM.get ms k), .bool (CM.get ms k).isSome]) w:=by
 obtain⟨D,h⟩:=h;obtain⟨v,ps,bC,a⟩:=h.own.look_ok fX underlying93 (je w) (zd:= .held (.agg bh)) (zp:= []) rfl (lD k g);rw [bC];cases f:CM.get ms k with
 |none=>
  obtain⟨b,d⟩:=h.no k f;rw [d] at a;obtain⟨e,_⟩:=DZ a;rw [b];exact zw _ _ (tS e).symm
 |some c=>
  obtain⟨b,d⟩:=h.MX k c f;rw [d] at a;obtain⟨e,_⟩:=DZ a;rw [b];exact zw _ _ (tS e).symm
theorem Ch.read (h:Ch w m ms) (k:Nat) {c:List Int} (a:CM.get ms k=some c):
    (Instr.lookup 93 (.map (some m)) (iV (k:Int)) false).run prog w= .ok (cV c) w:=by
 obtain⟨D,h⟩:=h;obtain⟨v,ps,bC,b⟩:=h.own.lookup fX underlying93 (je w) (zd:= .held (.agg bh)) (zp:= []) rfl (lD k ((h.len _ (CM.get_mem a)).1));rw [bC];rw [(h.MX k c a).2] at b;obtain⟨d,_⟩:=DZ b;exact congrArg (λz=>Result.ok z w) (tS d).symm
theorem Ch.store (h:Ch w m ms) (k:Nat) (s:k<2048) (c:List Int) (C:c.length=512) (A:Bytes c):
  ∃w',(Instr.mapUpdate 93 (.map (some m)) (iV (k:Int)) (cV c)).run prog w= .ok () w'/\Ch w' m (CM.put ms k c)/\aa (λb=>b=m) w w'/\w'.heap.size=w.heap.size:=by
 have km:=h.small;obtain⟨D,h⟩:=h;obtain⟨w',bC,E,r⟩:=h.own.store fX underlying93 (by unfold maxLen;omega) (lD k s) (show Ra (cV c)=some (.held (cV c), []) from rfl);have p:=h.own.isMap;have gF:WideAt.IsKeyLit (kk k):=trivial;have tO:=r.grown;have ef:Maps.size (D.put (kk k) (.held (cV c)))=(CM.put ms k c).length:=by
  rw [size_put (h.own.tidy fX),CM.sv h.ok,h.siz];cases f:CM.get ms k with
  |none=>rw [(h.no k f).1];rfl
  |some x=>rw [(h.MX k x f).1];rfl
 refine⟨w',bC,⟨D.put (kk k) (.held (cV c)),?_,ef,λt mb=>?_,λj x a=>?_,λj a=>?_,CM.uZ h.ok _ _,λq l=>?_⟩,⟨tO.os,tO.tape,tO.output,tO.size,λb eC F=>tO.block b eC (λe=>F (by injection e))⟩,?_⟩
 .obtain⟨n,d,v,y,G,o⟩:=E;refine⟨n,d,v,y,?_,o⟩;rw [<-ef,o];simp [Maps.size,length_sorted]
 .by_cases i:t=kk k
  .exact⟨k,i,by rw [CM.kr _ _ _ _ h.ok,aE rfl];rfl⟩
  .rw [has_put_other i] at mb;obtain⟨j,rfl,a⟩:=h.key t mb;refine⟨j,rfl,?_⟩;rw [CM.kr _ _ _ _ h.ok,aA (λe=>i (by rw [e]))];exact a
 .rw [CM.kr _ _ _ _ h.ok] at a;by_cases e:j=k
  .rw [aE e] at a;cases a;subst e;exact⟨has_put_same p gF _,λz=>atKey_put_same p gF _ z⟩
  .rw [aA e] at a;have dG:kk j≠kk k:=λg=>e (Rt g);exact⟨by rw [has_put_other dG];exact(h.MX j x a).1,λz=>by rw [atKey_put_other dG];exact(h.MX j x a).2 z⟩
 .rw [CM.kr _ _ _ _ h.ok] at a;by_cases e:j=k
  .rw [aE e] at a;cases a
  .rw [aA e] at a;have dG:kk j≠kk k:=λg=>e (Rt g);exact⟨by rw [has_put_other dG];exact(h.no j a).1,λz=>by rw [atKey_put_other dG];exact(h.no j a).2 z⟩
 .rcases CM.qL l with rfl|l
  .exact⟨s,C,A⟩
  .exact h.len q l
 .obtain⟨n,d,u,aij,_,e⟩:=r;rw [e];simp [setBlock]
theorem Ch.length (h:Ch w m ms) (a:TypeId):(Builtin.len_ #[93] a #[.map (some m)]).run prog w= .ok (iV (ms.length:Int)) w:=by
 obtain⟨D,h⟩:=h;rw [h.own.len underlying93 a,h.siz]
theorem Ch.qB (h:Ch w m ms):∃w',(∀d,(Builtin.clear_ #[93] d #[.map (some m)]).run prog w= .ok (.tuple #[]) w')/\Ch w' m []/\aa (λk=>k=m) w w'/\w'.heap.size=w.heap.size:=by
 obtain⟨D,h⟩:=h;obtain⟨g,a,b,F,_,_⟩:=h.own;refine⟨setBlock w m (.map #[] a),?_,⟨.map [],⟨#[],a,heap_setBlock_same b _,⟨by simp,?_,by simp⟩,by simp,by simp⟩,rfl,(λi h=>by simp [Maps.has] at h),(λk c h=>by cases h),(λk _=>⟨rfl,λz=>rfl⟩),List.Pairwise.nil,(λq f=>by cases f)⟩,⟨rfl,rfl,rfl,by simp [setBlock],λk _ e=>heap_setBlock_other b _ e⟩,by simp [setBlock]⟩
 .intro d;simp [Builtin.clear_,go_sem,MapKept.run_getObj_map b,MapKept.run_setObj_map _ b,setBlock]
 .exact MapKept.stamped_empty _
end
end
def co (ms:CM):List Int:=leb 2 ms.length ++ (ms.flatMap (λq=>leb 4 q.1) ++ ms.flatMap (·.2))
theorem nG (ms:CM):(ms.flatMap (λq=>leb 4 q.1)).length=4*ms.length:=by
 induction ms with
 |nil=>rfl
 |cons q b a=>simp only [List.flatMap_cons,dT,aH,a,List.length_cons];omega
theorem vf {ms:CM} (h:∀q∈ms,q.2.length=512):(ms.flatMap (·.2)).length=512*ms.length:=by
 induction ms with
 |nil=>rfl
 |cons q c b=>
  simp only [List.flatMap_cons,dT,b (λx a=>h x (List.mem_cons_of_mem _ a)),h q List.mem_cons_self,List.length_cons];omega
theorem NO {ms:CM} (h:∀q∈ms,q.2.length=512):(co ms).length=2+516*ms.length:=by
 unfold co;rw [dT,dT,aH,nG,vf h];omega
theorem D0 (a:Option Addr) (n c:Nat) (w:World) (d:n<=140737488355328):
  Calls prog 174 #[.slice a n c] w λe w'=>e= .returned (iV (((n+491) / 492:Nat):Int))/\w'=w:=by
 have b:(n:Int)+492-1=((n+491:Nat):Int):=by omega
 go_in;go_wp2;go_ret;refine⟨?_,rfl⟩;refine congrArg (λz=>Ending.returned (iV z)) ?_;first|(rw [b];omega)|omega
def zy (B:Nat) (w':World) (l:List Int) (e:Ending):Prop:=∃v',e= .returned v'/\w'.ownsRow B 5 1 v' l.length (bs l)
theorem Gv {B:Nat} (h:w.ownsRow B 5 1 v l.length (bs l)) (p:B<=w.heap.size) (N k:Nat) (s:k<=4) (t:l.length<=1000000):
  Calls prog 212 #[v,iV (N:Int),iV (k:Int)] w λe w'=>zy B w' (l ++ leb k N) e/\Below B w w':=by
 obtain⟨m,rt,gv,dr,ec⟩:=info_parts fW;go_in;go_wp2;go_loopw [0,9] (λu i wr=>∃j:Nat,j<=k/\i=iV (j:Int)/\wr.ownsRow B 5 1 u (l ++ leb j N).length (bs (l ++ leb j N))/\Below B w wr) (λ_ i _=>k-(intOf i).toNat);case atStart=>exact⟨0,dU _,rfl,by simpa [leb] using h,bi _ _⟩
 case round=>
  obtain⟨j,r,rfl,aY,b⟩:=hrel;have g:=b.size;by_cases bm:j<k
  .have cw:(j:Int)<(k:Int):=(by omega);have a:=aH j N;have Ro:(0:Int)<=8*(j:Int):=(by omega);have uP:=aY;have jT:(l ++ leb j N).length+1<=1000010:=(by rw [dT,a];omega);go_wp2_with (at_builtin;refine wpList_append_own _ rfl _ _ 36 rfl B 5 m (.int .u8 0) 1 1 underlying36 rt gv dr ec rfl (by decide) _ _ _ rfl (uP.alloc _) (aD wr.heap.size 0) 1 1 [.int .u8 ((N / 2 ^ (8*j)%256:Nat):Int)] rfl rfl (cell_one_new _ _ _) (ints_oneCell .u8 [((N / 2 ^ (8*j)%256:Nat):Int)]) (by unfold maxLen;omega) (by omega) (by simp;omega) ?_);intro n o cJ aO jx;have uM:=λq e=>(aY.lt q e).1;have bz:=(b.alloc (by omega) _).grown aO (by simp;omega) (λq e=>uM q e);have fE:o.ownsRow B 5 1 n (l ++ leb (j+1) N).length (bs (l ++ leb (j+1) N)):=by
    have d:(l ++ leb j N ++ [((N / 2 ^ (8*j)%256:Nat):Int)]).length=(l ++ leb j N).length+1:=(by simp only [dT,List.length_singleton]);have f:bs (l ++ leb j N ++ [((N / 2 ^ (8*j)%256:Nat):Int)])=bs (l ++ leb j N) ++ [.int .u8 ((N / 2 ^ (8*j)%256:Nat):Int)]:=(by simp only [bs,List.map_append,List.map_cons,List.map_nil]);rw [iX,<-List.append_assoc,d,f,dT,a];simpa [bs] using cJ
   go_wp2;go_roundw;case rel=>exact⟨j+1,by omega,by go_num,fE,bz⟩
   case measure=>simp [intOf];omega
  .have cw:¬(j:Int)<(k:Int):=(by omega);obtain rfl:j=k:=(by omega);have c:=(aF aY b);go_wp2;go_ret;exact⟨⟨_,rfl,c.1⟩,c.2⟩
def sbring (S:DS) (s home:Nat):CM->Int×DS
 | []=>(0,S)
 |q :: qs=>if (S.wr s ((home+q.1:Nat):Int) 512 q.2).1≠0 then S.wr s ((home+q.1:Nat):Int) 512 q.2 else sbring (S.wr s ((home+q.1:Nat):Int) 512 q.2).2 s home qs
structure LY where
 log:Nat
 home:Nat
 blocks:Nat
 nodes:Nat
 data:Nat
structure SG where
 y:LY
 L:LG
 ov:CM
 busy:Bool
structure TG where
 puts:CM
 bad:Int
 ended : Bool
def SG.check (G:SG) (S:DS) (s:Nat):Int×DS×SG:=
 if (G.L.sync S s).1≠0 then ((G.L.sync S s).1,(G.L.sync S s).2,G) else
 if (sbring (G.L.sync S s).2 s G.y.home G.ov).1≠0 then ((sbring (G.L.sync S s).2 s G.y.home G.ov).1,(sbring (G.L.sync S s).2 s G.y.home G.ov).2,G) else
 if (G.L.trim (sbring (G.L.sync S s).2 s G.y.home G.ov).2 s).1≠0 then ((G.L.trim (sbring (G.L.sync S s).2 s G.y.home G.ov).2 s).1,(G.L.trim (sbring (G.L.sync S s).2 s G.y.home G.ov).2 s).2.1,{G with L:=(G.L.trim (sbring (G.L.sync S s).2 s G.y.home G.ov).2 s).2.2})
 else (0,(G.L.trim (sbring (G.L.sync S s).2 s G.y.home G.ov).2 s).2.1,{G with L:=(G.L.trim (sbring (G.L.sync S s).2 s G.y.home G.ov).2 s).2.2,ov:= []})
def SG.roomy (G:SG) (S:DS) (x:Nat):Bool:=decide ((cY x:Int)<=(G.L.room S).1)
def SG.made (G:SG) (S:DS) (s:Nat) (x:Nat):Int×DS×SG:=if G.roomy S x=true then (0,S,G) else G.check S s
def SG.bF (G:SG) (S:DS) (s:Nat) (c:CM):Int×DS×SG:=
 if (G.L.room S).2≠0 then ((G.L.room S).2,S,G) else
 if (G.made S s (co c).length).1≠0 then G.made S s (co c).length else
 if ((G.made S s (co c).length).2.2.L.append (G.made S s (co c).length).2.1 s (co c)).1≠0 then
    (((G.made S s (co c).length).2.2.L.append (G.made S s (co c).length).2.1 s (co c)).1,((G.made S s (co c).length).2.2.L.append (G.made S s (co c).length).2.1 s (co c)).2.1,{(G.made S s (co c).length).2.2 with L:=((G.made S s (co c).length).2.2.L.append (G.made S s (co c).length).2.1 s (co c)).2.2})
 else (0,((G.made S s (co c).length).2.2.L.append (G.made S s (co c).length).2.1 s (co c)).2.1,{(G.made S s (co c).length).2.2 with L:=((G.made S s (co c).length).2.2.L.append (G.made S s (co c).length).2.1 s (co c)).2.2,ov:=CM.bX (G.made S s (co c).length).2.2.ov c})
def SG.block (G:SG) (S:DS) (b:Nat):List Int:=(CM.get G.ov b).getD (S.now (G.y.home+b))
def TG.jN (T:TG) (G:SG) (S:DS) (b:Nat):List Int:=(CM.get T.puts b).getD (G.block S b)
def TG.bX (T:TG) (G:SG) (S:DS):Int:=if G.L.dead S=true then 3 else if T.ended=true then 4 else 0
def TG.state (T:TG) (G:SG) (S:DS):Int:=if T.bX G S≠0 then T.bX G S else T.bad
def TG.refusal (T:TG) (G:SG) (S:DS) (b:Int):Int:=if T.state G S≠0 then T.state G S else if b<0\/(G.y.blocks:Int)<=b then 11 else 0
theorem Kg (v:Value) (y:DataW Value×List MemPlace) (h:Ra v=some y):∃c,v=Value.agg c:=by
 unfold Ra at h;split at h
 .exact⟨_,rfl⟩
 .cases h
theorem ve.met {m:Nat} {ms:CM} {D:DataW Value} (h:ve w m ms D) {a:Lit} {y:DataW Value} (gF:keyOf prog 3 (iV x)=some a) (ic:∀zd,D.atKey a zd=y):
  ∃k:Nat,x=(k:Int)/\a=kk k/\(CM.get ms k).isSome=true:=by
 obtain⟨k,rfl,d⟩:=h.key a (Maps.has_true_of_atKey ic);obtain⟨f,c,b,_⟩:=Maps.keyOf_int_inv underlying3 gF;have e:x=(k:Int):=by cases c;simpa [kk] using b.symm
 exact⟨k,e,rfl,d⟩
theorem mem_keys {ms:CM} (b:CM.Ok ms) (k:Nat):k∈CM.keys ms↔(CM.get ms k).isSome=true:=by
 constructor
 .intro h;obtain⟨q,d,e⟩:=List.mem_map.1 h;rw [CM.get_of_mem b (k:=k) (c:=q.2) (by rw [<-e];exact d)];rfl
 .intro h;obtain⟨c,a⟩:=Option.isSome_iff_exists.1 h;exact List.mem_map.2 ⟨_,CM.get_mem a,rfl⟩
theorem NP {ms:CM} (f:CM.Ok ms) (i:ks.Nodup) (g:∀k,k∈ks↔(CM.get ms k).isSome=true):
    ((ks.map (λk:Nat=>(k:Int))).mergeSort λx y=>decide (x<=y))=(CM.keys ms).map (λk:Nat=>(k:Int)):=by
 have bm:=CM.Vr f;have mg:(CM.keys ms).Nodup:=bm.imp (λh=>Nat.ne_of_lt h);have PU:=(List.perm_ext_iff_of_nodup i mg).2 (λk=>by rw [g,mem_keys f]);have bo:((CM.keys ms).map (λk:Nat=>(k:Int))).Pairwise (λx y=>decide (x<=y)=true):=by
  refine List.pairwise_map.2 ?_;exact bm.imp (λh=>by simp;omega)
 have l:∀a b c:Int,decide (a<=b)=true->decide (b<=c)=true->decide (a<=c)=true:=λa b c d e=>by simp only [decide_eq_true_eq] at*;omega
 have j:∀a b:Int,(decide (a<=b) || decide (b<=a))=true:=λa b=>by simp only [Bool.or_eq_true,decide_eq_true_eq];omega
 refine List.Perm.eq_of_pairwise (le:=λa b=>decide (a<=b)=true) (λa b _ _ d e=>?_) (List.pairwise_mergeSort l j _) bo ((List.mergeSort_perm _ _).trans (PU.map _));simp only [decide_eq_true_eq] at d e;omega
theorem Gw {m:Nat} {ms:CM} {D:DataW Value} (h:ve w m ms D):
  Calls prog 159 #[.map (some m)] w λe w'=>∃a c,e= .returned (.slice a (CM.keys ms).length c)/\(CM.keys ms≠ []->∃g,a=some (aD g 0)/\w.heap.size<=g/\ay w' 3 g c (yr (CM.keys ms)))/\bW w w':=by
 obtain⟨F,rt,gv,dr,ec⟩:=info_parts Dh;have AY:=h.lt;have km:=Ch.small ⟨D,h⟩;have H:=yh h;clear h;go_in;go_wp2_with (at_range;refine wpList_range_own _ rfl _ 93 rfl 3 101 fX underlying93 Ra m ms.length D rfl H.o.own ?_;intro w0 pg uD xZ;go_frame);have fo:=(bi _ w).grown uD (bP _) (λj l=>by cases l);clear uD;go_loopw [3,4] (λv _ wr=>∃(left:Lit->Bool) (iN:Nat) (ks:List Nat),wr.ranges prog 3 Ra m w.heap.size ms.length D left iN/\wr.ownsRow (w.heap.size+1) 3 1 v ks.length (yr ks)/\
   ks.Nodup/\(∀k,k∈ks↔(CM.get ms k).isSome=true/\left (kk k)=false)/\bW w wr/\ks.length+iN<=ms.length/\w.heap.size+1<=wr.heap.size)
    (λ_ _ wr=>wr.rangeLeft m w.heap.size)
 case atStart=>
  refine⟨_,_, [],pg,World.ownsRow_nil _ _ _ _,List.nodup_nil,λk=>?_,fo,by simpa using H.o.own.size_le,by omega⟩;constructor
  .intro p;cases p
  .rintro ⟨q,r⟩;obtain⟨c,A⟩:=Option.isSome_iff_exists.1 q;rw [(H.o.MX k c A).1] at r;cases r
 case round=>
  clear pg fo xZ;obtain⟨left,iN,ks,mI,aY,IR,rj,i,nY,ef⟩:=hrel;go_wp2_with (at_next;refine wpList_next_ranges _ rfl _ rfl 3 fX Ra (Value.int .i64) Value.agg (λG I gF=>by obtain⟨x,rfl,_⟩:=Maps.keyOf_int_inv underlying3 gF;exact⟨x,rfl⟩) Kg m w.heap.size ms.length _ _ _ rfl mI ?_ ?_)
  .intro _ vJ;have yu:∀k,k∈ks↔(CM.get ms k).isSome=true:=λk=>by rw [rj,vJ];simp
   have Jm:=NP H.o.ok IR yu;have d:ks.length=(CM.keys ms).length:=by
    have:=congrArg List.length Jm;rw [List.length_mergeSort] at this;simpa using this
   have B8:ks= []->CM.keys ms= []:=λe=>by rw [e] at d;exact List.eq_nil_of_length_eq_zero d.symm
   rcases aY.2 with ⟨rfl,E⟩|⟨g,f,cur,rfl,M,sd,L,u,y,n⟩
   .have eF:=B8 (List.eq_nil_of_length_eq_zero E);have fZ:=vM wr;clear aY rj yu Jm mI H;go_wp2_with (go_at_call 125;refine fZ.mono ?_;rintro e K ⟨rfl,A3⟩);go_ret;exact⟨none,0,by simp [eF],λh=>absurd eF h,i.trans (A3.mono i.size)⟩
   .have TY:ay wr 3 g f ((ks.map (λk:Nat=>(k:Int))).map (Value.int .i64)):=by
     rw [LL];refine⟨cur,sd,by simpa using y,?_,u⟩;simp only [Nat.mul_one] at n;rw [show (yr ks).length=ks.length by simp [yr]];exact n
    have l6:=vL g f _ wr TY (by simp;omega);simp only [List.length_map] at l6;rw [Jm] at l6;have MM:=yh d;clear aY rj yu Jm mI H TY d n;go_wp2_with (go_at_call 125;refine l6.mono ?_;rintro e K ⟨rfl,Dr,A4⟩);go_ret;refine⟨some (aD g 0),f,?_,λ_=>⟨g,rfl,by omega,?_⟩,i.trans (A4.below (λj l=>by omega) i.size)⟩
    .rw [<-MM.o];rfl
    .rw [<-LL];exact Dr
  .intro x ca I N O s ph gF x8 C ic oR bm fU bo IQ;obtain⟨k,rfl,rfl,q⟩:=H.o.met gF ic;have xr:k∉ks:=λp=>by rw [((rj k).1 p).2] at x8;cases x8
   have lL:=aY.kept fU (.inr (λe=>by have:=aY.lt _ e;omega));have aW:=i.grown fU i.size (λj l=>by cases l;exact bP _);have ju:w.heap.size+1<=s.heap.size:=(by omega);have FE:∀j,j∈ks ++ [k]↔(CM.get ms j).isSome=true/\(left (kk j) && !(kk j).sameKey (kk k))=false:=λj=>by
    rw [List.mem_append,List.mem_singleton,rj,ln];by_cases e:j=k
    .subst e;simp [q]
    .simp [e]
   have d:ks.length+1<=5000000000000:=(by omega);obtain⟨PX,yv⟩:=bL FE lL;clear gF C ic bo fU rj FE lL;go_wp2_with (at_builtin;refine wpList_append_own _ rfl _ _ 23 rfl (w.heap.size+1) 3 F (iV 0) 1 8 underlying23 rt gv dr ec rfl (by decide) _ _ _ rfl (yv.o.alloc _) (aD s.heap.size 0) 1 1 [iV (k:Int)] rfl rfl (cell_one_new _ _ _) (ints_oneCell .i64 [(k:Int)]) (by unfold maxLen;omega) (by omega) (by simp;omega) ?_);intro J t cJ aO jx;have uM:=λj e=>(aY.lt j e).1;have Ji:=(oR.alloc (.cells #[.int .i64 (k:Int)] 3)).kept aO (λe=>by have:=uM m e.symm;omega) (λe=>by have:=uM _ e.symm;omega);have bz:=(aW.alloc (by omega) _).grown aO (by simp;omega) (λj e=>by have:=uM j e;omega);have Dj:w.heap.size+1<=t.heap.size:=(by have:=aO.size;simp at this;omega);have YF:(ks ++ [k]).Nodup:=List.nodup_append.2 ⟨IR,by simp,by intro a z b eC e;simp at eC;subst eC;exact xr (e▸z)⟩;have fE:t.ownsRow (w.heap.size+1) 3 1 J (ks ++ [k]).length (yr (ks ++ [k])):=(by simpa [yr] using cJ);obtain⟨iW,Fx⟩:=bL fE Ji;clear cJ aO jx fE Ji aY yv oR IQ;go_wp2;go_roundw;case rel=>exact⟨_,ph,ks ++ [k],Fx.o,iW.o,YF,PX.o,bz,by simp;omega,Dj⟩
   case measure=>rw [Fx.o.left_eq,mI.left_eq];exact bm
theorem wd {m:Nat} {ms:CM} (h:Ch w m ms):
  Calls prog 159 #[.map (some m)] w λe w'=>∃a c,e= .returned (.slice a (CM.keys ms).length c)/\(CM.keys ms≠ []->∃g,a=some (aD g 0)/\w.heap.size<=g/\ay w' 3 g c (yr (CM.keys ms)))/\bW w w':=by
 obtain⟨D,h⟩:=h;exact Gw h
end Go.Proofs.YtenlkgicpllbhaaGreat
