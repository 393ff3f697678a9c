import Derived.Test.YtkiehemoiapkkaaGreatY01
import Derived.Test.YtkiehemoiapkkaaGreatY02
import Derived.Shelf.Sort.AssemblyIn
import Derived.Sort.EveryDepth
import Derived.Sort.OwnSortedInts
import Derived.RegionTactic
import Derived.OwnWalk
import Derived.Laws.AppendOwnNone
set_option maxRecDepth 20000
set_option maxHeartbeats 8000000
set_option linter.all false
namespace Go.Proofs.YtkiehemoiapkkaaGreat
open Go.Proofs.Tryz
open Go.RowKit Go.Maps
variable {cur:Array Value} {ms:CM} {S:DS} {x:Int} {rs:List (List Int)} {d l:List Int} {E P c g h i j k lo n p s:Nat} {F:Nat->Prop} {T e:TypeId} {v y z:Value} {w w' w2 w3:World} {C:World->Prop}
section
open Go.RowKit Go.Maps Go.Shelf Go.Sort
def Wp:LQ:=by
 intro g b zs w f fy;have c:=f.le;have Wq:=f;obtain⟨cur,i,m,j,p⟩:=Wq;have d:(zs.map (Value.int .i64)).length=zs.length:=by simp
 rw [d] at c j;have l:=holds_of_blockI i j;refine(calls_of_every_depth λD=>AnyS.slices_Sort_int_in Tryz.lays189 D g 0 b zs w l f.lt fy).mono ?_;rintro e w' ⟨rfl,n,os,rfl⟩;have q:(zs.mergeSort λx y=>decide (x<=y)).length=zs.length:=List.length_mergeSort _;have a:=grownBy_sortedI (w:=w) (g:=g) (n:=n) (os:=os) (zs.mergeSort λx y=>decide (x<=y)).toArray;refine⟨rfl,⟨_,heap_sortedI _ i,by simp [putCells,m],?_,p⟩,⟨a.os,a.tape,a.output,a.size,λk o eM=>a.block k o (by simpa using eM)⟩⟩;rw [ju];exact take_putCellsI cur _ (by omega)
def PW (w:World):Calls prog 194 #[.slice none 0 0,iV 0,iV 0] w λe w'=>e= .returned (.tuple #[])/\w'=w:=by
 go_in;go_wp2;refine wp_loop_rounds 1 ?_;rw [rounds_succ];go_wp2
 go_end0
 exact⟨rfl,rfl⟩
def PX (n:Int) (w:World):Calls prog 179 #[.slice none 0 0,iV 0,iV 0,iV n] w λe w'=>e= .returned (.tuple #[])/\w'=w:=by
 go_in;go_wp2;refine wp_loop_rounds 1 ?_;rw [rounds_succ];go_wp2_with (go_at_call 194;refine(PW _).mono ?_;rintro e w' ⟨rfl,rfl⟩);exact bodyPost_ret (results_none rfl _ _ _) rfl ⟨rfl,rfl⟩
def Wr:PV:=by
 intro w;go_in;go_wp2_with (first|(go_at_call 179;refine(PX _ _).mono ?_;rintro e w' ⟨rfl,rfl⟩)|go_in)
 go_end0
 exact⟨rfl,RowKit.Below.refl _ _⟩
end
def Eu (v:Value) (y:DataW Value×List MemPlace) (h:Ra v=some y):∃c,v=Value.agg c:=by
 unfold Ra at h;split at h
 .exact⟨_,rfl⟩
 .cases h
def sd.met {m:Nat} {D:DataW Value} (h:sd w m ms D) {a:Lit} {y:DataW Value} (gu:keyOf prog 3 (iV x)=some a) (k7:∀zd,D.atKey a zd=y):
  ∃k:Nat,x=(k:Int)/\a=kk k/\(CM.get ms k).isSome=true:=by
 obtain⟨k,rfl,d⟩:=h.key a (Maps.has_true_of_atKey k7);obtain⟨f,c,b,_⟩:=Maps.keyOf_int_inv underlying3 gu;have e:x=(k:Int):=by cases c;simpa [kk] using b.symm
 exact⟨k,e,rfl,d⟩
def mem_keys (b:CM.Ok ms) (k:Nat):k∈CM.keys ms↔(CM.get ms k).isSome=true:=by
 constructor
 .intro h;obtain⟨q,d,e⟩:=List.mem_map.1 h;rw [CM.get_of_mem b (k:=k) (c:=q.2) (by rw [<-e];exact d)];rfl
 .intro h;obtain⟨c,a⟩:=Option.isSome_iff_exists.1 h;exact List.mem_map.2 ⟨_,CM.get_mem a,rfl⟩
def IV (f:CM.Ok ms) {ks:List Nat} (i:ks.Nodup) (g:∀k,k∈ks↔(CM.get ms k).isSome=true):
    ((ks.map (λk:Nat=>(k:Int))).mergeSort λx y=>decide (x<=y))=(CM.keys ms).map (λk:Nat=>(k:Int)):=by
 have aS:=CM.PH f;have zJ:(CM.keys ms).Nodup:=aS.imp (λh=>Nat.ne_of_lt h);have Ws:=(List.perm_ext_iff_of_nodup i zJ).2 (λk=>by rw [g,mem_keys f]);have dQ:((CM.keys ms).map (λk:Nat=>(k:Int))).Pairwise (λx y=>decide (x<=y)=true):=by
  refine List.pairwise_map.2 ?_;exact aS.imp (λh=>by simp;omega)
 have l:∀a b c:Int,decide (a<=b)=true->decide (b<=c)=true->decide (a<=c)=true:=λa b c d e=>by simp only [decide_eq_true_eq] at*;omega
 have j:∀a b:Int,(decide (a<=b) || decide (b<=a))=true:=λa b=>by simp only [Bool.or_eq_true,decide_eq_true_eq];omega
 refine List.Perm.eq_of_pairwise (le:=λa b=>decide (a<=b)=true) (λa b _ _ d e=>?_) (List.pairwise_mergeSort l j _) dQ ((List.mergeSort_perm _ _).trans (Ws.map _));simp only [decide_eq_true_eq] at d e;omega
def BA {m:Nat} {D:DataW Value} (h:sd w m ms D):
  Calls prog 126 #[.map (some m)] w λe w'=>∃a c,e= .returned (.slice a (CM.keys ms).length c)/\(CM.keys ms≠ []->∃g,a=some (aD g 0)/\w.heap.size<=g/\ao w' 3 g c (A2 (CM.keys ms)))/\bW w w':=by
 obtain⟨I,zo,iX,eR,eE⟩:=info_parts zj;have Lp:=h.lt;have PT:=Ch.small ⟨D,h⟩;have H:=yh h;clear h;go_in;go_wp2_with (at_range;refine wpList_range_own _ rfl _ 94 rfl 3 113 ft underlying94 Ra m ms.length D rfl H.o.own ?_;intro w0 qH ux zl;go_frame);have lJ:=(cW _ w).grown ux (di _) (λj n=>by cases n);clear ux;go_loopw [3,4] (λv _ wr=>∃(left:Lit->Bool) (bf:Nat) (ks:List Nat),wr.ranges prog 3 Ra m w.heap.size ms.length D left bf/\wr.ownsRow (w.heap.size+1) 3 1 v ks.length (A2 ks)/\
   ks.Nodup/\(∀k,k∈ks↔(CM.get ms k).isSome=true/\left (kk k)=false)/\bW w wr/\ks.length+bf<=ms.length/\w.heap.size+1<=wr.heap.size)
    (λ_ _ wr=>wr.rangeLeft m w.heap.size)
 case atStart=>
  refine⟨_,_, [],qH,World.ownsRow_nil _ _ _ _,List.nodup_nil,λk=>?_,lJ,by simpa using H.o.own.size_le,by omega⟩;constructor
  .intro q;cases q
  .rintro ⟨s,t⟩;obtain⟨c,E⟩:=Option.isSome_iff_exists.1 s;rw [(H.o.at' k c E).1] at t;cases t
 case round=>
  clear qH lJ zl;obtain⟨left,bf,ks,jH,aU,PY,zL,i,wI,fy⟩:=hrel;go_wp2_with (at_next;refine wpList_next_ranges _ rfl _ rfl 3 ft Ra (Value.int .i64) Value.agg (λJ K gu=>by obtain⟨x,rfl,_⟩:=Maps.keyOf_int_inv underlying3 gu;exact⟨x,rfl⟩) Eu m w.heap.size ms.length _ _ _ rfl jH ?_ ?_)
  .intro _ oY;have LR:∀k,k∈ks↔(CM.get ms k).isSome=true:=λk=>by rw [zL,oY];simp
   have RG:=IV H.o.ok PY LR;have d:ks.length=(CM.keys ms).length:=by
    have:=congrArg List.length RG;rw [List.length_mergeSort] at this;simpa using this
   have Wt:ks= []->CM.keys ms= []:=λe=>by rw [e] at d;exact Ef d.symm
   rcases aU.2 with ⟨rfl,G⟩|⟨g,f,cur,rfl,P,ia,O,z,A,p⟩
   .have iB:=Wt (Ef G);have nP:=Wr wr;clear aU zL LR RG jH H;go_wp2_with (go_at_call 152;refine nP.mono ?_;rintro e M ⟨rfl,DX⟩);go_ret;exact⟨none,0,by simp [iB],λh=>absurd iB h,i.trans (DX.mono i.size)⟩
   .have l:ao wr 3 g f ((ks.map (λk:Nat=>(k:Int))).map (Value.int .i64)):=by
     rw [RF];refine⟨cur,ia,by simpa using A,?_,z⟩;simp only [Nat.mul_one] at p;rw [show (A2 ks).length=ks.length by simp [A2]];exact p
    have Ev:=Wp g f _ wr l (by simp;omega);simp only [ju] at Ev;rw [RG] at Ev;have abi:=yh d;clear aU zL LR RG jH H l d p;go_wp2_with (go_at_call 152;refine Ev.mono ?_;rintro e M ⟨rfl,abj,Ew⟩);go_ret;refine⟨some (aD g 0),f,?_,λ_=>⟨g,rfl,by omega,?_⟩,i.trans (Ew.below (λj n=>by omega) i.size)⟩
    .rw [<-abi.o];rfl
    .rw [<-RF];exact abj
  .intro x N K Q R u pL gu sX F k7 nA aS dU dQ KT;obtain⟨k,rfl,rfl,s⟩:=H.o.met gu k7;have r:k∉ks:=λq=>by rw [((zL k).1 q).2] at sX;cases sX
   have BB:=aU.kept dU (.inr (λe=>by have:=aU.lt _ e;omega));have aG:=i.grown dU i.size (λj n=>by cases n;exact di _);have zm:w.heap.size+1<=u.heap.size:=(by omega);have RH:∀j,j∈ks ++ [k]↔(CM.get ms j).isSome=true/\(left (kk j) && !(kk j).sameKey (kk k))=false:=λj=>by
    rw [List.mem_append,List.mem_singleton,zL,lf];by_cases e:j=k
    .subst e;simp [s]
    .simp [e]
   have d:ks.length+1<=5000000000000:=(by omega);obtain⟨Wu,GL⟩:=eA RH BB;clear gu F k7 dQ dU zL RH BB;go_wp2_with (at_builtin;refine wpList_append_own _ rfl _ _ 26 rfl (w.heap.size+1) 3 I (iV 0) 1 8 underlying26 zo iX eR eE rfl (by decide) _ _ _ rfl (GL.o.alloc _) (aD u.heap.size 0) 1 1 [iV (k:Int)] rfl rfl (cell_one_new _ _ _) (ints_oneCell .i64 [(k:Int)]) (by unfold maxLen;omega) (by omega) (by simp;omega) ?_);intro L y cK bS lZ;have sf:=λj e=>(aU.lt j e).1;have By:=(nA.alloc (.cells #[.int .i64 (k:Int)] 3)).kept bS (λe=>by have:=sf m e.symm;omega) (λe=>by have:=sf _ e.symm;omega);have bH:=(aG.alloc (by omega) _).grown bS (by simp;omega) (λj e=>by have:=sf j e;omega);have II:w.heap.size+1<=y.heap.size:=(by have:=bS.size;simp at this;omega);have abk:(ks ++ [k]).Nodup:=List.nodup_append.2 ⟨PY,by simp,by intro a C b nh e;simp at nh;subst nh;exact r (e▸C)⟩;have g9:y.ownsRow (w.heap.size+1) 3 1 L (ks ++ [k]).length (A2 (ks ++ [k])):=(by simpa [A2] using cK);obtain⟨Wv,LO⟩:=eA g9 By;clear cK bS lZ g9 By aU GL nA KT;go_wp2;go_roundw;case rel=>exact⟨_,pL,ks ++ [k],LO.o,Wv.o,abk,Wu.o,bH,by simp;omega,II⟩
   case measure=>rw [LO.o.left_eq,jH.left_eq];exact aS
def s8 {m:Nat} (h:Ch w m ms):
  Calls prog 126 #[.map (some m)] w λe w'=>∃a c,e= .returned (.slice a (CM.keys ms).length c)/\(CM.keys ms≠ []->∃g,a=some (aD g 0)/\w.heap.size<=g/\ao w' 3 g c (A2 (CM.keys ms)))/\bW w w':=by
 obtain⟨D,h⟩:=h;exact BA h
def IW (h:gA w T g l):w.rangeAt g 0 (bs l):=by
 intro j v b;obtain⟨a,rfl⟩:=eG b;rw [Nat.zero_add];exact h.cell a
def aZ (h:w.heap[g]? =some (.cells cur T (0,0))) (b:cur.size=n):w.there g 0 n:=by
 intro j a;rw [Nat.zero_add];exact⟨by rw [aa h (j:=j) (u:=cur[j]'(by omega)) (by simp [show j<cur.size by omega])];rfl,ae h j⟩
def bL:aM.size=512:=by unfold aM;simp only [List.size_toArray,bs,ju,bN]
def gD (h:l.length=512):(prog.info? 188).map (·.size)=some (bs l).length:=by
 rw [zG,bs,ju,h]
def mA (t:Nat) (a:Option Addr) (n c:Nat) (body:List Int) (w:World) (C:t<256) (m:Src w a n body) (y:n<=504) (q:Bytes body):
  Calls prog 158 #[.int .u8 (t:Int), .slice a n c] w λe w'=>e= .returned (.agg (bs (bc t body)).toArray)/\bW w w':=by
 obtain⟨H,z,ZJ⟩:=tO m gN m.1;have kZ:=(λw1=>lg (w.heap.size+1) 0 1 3 w1 (by omega) (by omega));have DY:=(λw1=>lg (w.heap.size+1) 0 7 511 w1 (by omega) (by omega));have O2:=(λw1=>lg (w.heap.size+1) 0 3 7 w1 (by omega) (by omega));clear m;go_in;go_wp2_with fail;rw [Wl];obtain⟨w1,bd⟩:=cF ((w.alloc (.cells aM 188)).alloc (.cells (bs (s1 t)).toArray 188));have aH:bW w w1:=by rw [bd];exact((cW _ w).alloc (di _) _).alloc (by simp) _
 have aA:gA w1 188 (w.heap.size+1) (s1 t):=by rw [bd];exact heap_alloc2_new _ _ _
 have gX:w1.heap[w.heap.size]? =some (.cells aM 188 (0,0)):=by rw [bd];exact heap_alloc2_old _ _ _
 rw [<-bd];clear bd z;refine(kZ w1).mono ?_;rintro e w' ⟨rfl,b⟩;have fJ:=b.symm;subst fJ;clear b kZ;have d:=zE (w.heap.size+1) 1 2 2 n 188 (s1 t) w1 aA (by omega) (by rw [Ta];omega);rw [Wi t n (by omega)] at d;have Tf:=gX;have ew:=aH;clear aA gX aH;go_wp2_with fail;refine zg d λr aA l eE=>?_;have eY:=ew.trans (l.below (λj k=>by omega) ew.size);have gX:=(l.block _ (oF.1 Tf).1 (by omega)).trans Tf;obtain⟨s,ct,LS,aR,rS⟩:=LL r 3 188 (w.heap.size+1) 7 504 504 a n c (s2 t n) body aA (H.later eY) y (by rw [Tb];omega);have gP:=eY.trans (aR.below (λj k=>by omega) eY.size);have ta:=(aR.block _ (oF.1 gX).1 (by omega)).trans gX;have g:=Wj t body (by omega);rw [ZJ] at g;rw [g] at LS;obtain⟨GM,LT,nB⟩:=tO LS ta gP;clear d aA l eY gX aR gP ta LS ew Tf eE rS g;go_wp2_with fail;refine(DY r).mono ?_;rintro e w' ⟨rfl,b⟩;have fJ:=b.symm;subst fJ;clear b DY;go_wp2_with fail;refine(O2 s).mono ?_;rintro e w' ⟨rfl,b⟩;have fJ:=b.symm;subst fJ;clear b O2 ct;have BC:=LF (w.heap.size+1) 188 (s3 t body) s GM (LI t (by omega)) (LJ (by omega) q (by omega));rw [PS t body (by omega)] at BC;have x:=qE (Bl q (show body.length<=504 by omega));have i:=Wk t body;obtain⟨E,o⟩:=cF (sumOf (xE body));rw [<-o] at BC x i;have f:=i;clear o i;go_wp2_with fail;refine ef BC λA eK=>?_;have RI:=GM.ak (eK.block _ GM.lt);have pr:=(eK.block _ (oF.1 LT).1).trans LT;have mu:=nB.trans (eK.mono nB.size);have d:=zE (w.heap.size+1) 3 4 4 E 188 (s3 t body) A RI (by omega) (by rw [LI t (by omega)];omega);rw [f] at d;have LU:=pr;have mB:=mu;clear BC eK RI pr mu GM LT nB f;go_wp2_with fail;refine zg d λu RJ cB ud=>?_;have RK:=(cB.block _ (oF.1 LU).1 (by omega)).trans LU;have ue:=mB.trans (cB.below (λj k=>by omega) mB.size);have nj:(bc t body).length=512:=eS (by omega);have oH:=IW RJ;have cC:=aZ RK bL;have aJ:=gD nj;have qI:(bs (bc t body)).length=512:=by rw [bs,ju,nj]
 have cY:=bD (bc t body);generalize p:bs (bc t body)=F at*;rw [<-qI] at cC;have wm:=(World.rangeAt_setCells_same u w.heap.size 0 F cC);have bC:=all_oneCell_toArray cY;have rT:=ue.trans ((ad.setCells (F:=λj=>j=w.heap.size) rfl F 0 u).below (λj k=>by omega) ue.size);have v:=p;clear d RJ cB ud RK ue nj LU mB cY p;go_wp2_with (first|refine wpList_load_mid rfl 188 _ rfl (w.heap.size+1) 0 rfl F _ oH underlying188 rfl aJ ?_|refine wpList_store_mid rfl 188 _ _ rfl w.heap.size 0 F.toArray rfl rfl ?h1 ?h2 bC ?_);case h1=>simpa using cC
 case h2=>simpa using aJ
 exact bodyPost_ret (cN (P:=prog) rfl _ _ w.heap.size F _ rfl wm underlying188 rfl aJ) rfl ⟨by rw [v],rT⟩
def results_cell_tmp {P:Program} {c:Func} {p q:Tmp} {b:TypeId} (h:c.results= #[.cell p b, .tmp q]) (a:Array Value) (w:World) (g:Nat) (cs:List Value) (d:TypeDesc) (v:Value)
    (f:a.getD p undef=pQ g) (i:a.getD q undef=v) (e:w.rangeAt g 0 cs) (j:P.underlying b=some d) (hd:d.isRow=true) (hi:(P.info? b).map (·.size)=some cs.length):
    (results c a).run P w= .ok (.tuple #[.agg cs.toArray,v]) w:=by
 have SV:a[p]?.getD undef=pQ g:=by simpa using f
 have Ww:a[q]?.getD undef=v:=by simpa using i
 simp [results,h,SV,Ww,asAddr,run_loadVar_mid w g 0 b cs d e j hd hi]
def l6 {b o:Nat} (h:Src w (some (aD b o)) n l):w.rangeAt b o (bs l):=by
 intro j v a;obtain⟨c,rfl⟩:=eG a;have:=h.2.2 _ rfl j (by have:=h.1;omega);rwa [aV] at this
def LV (a:Option Addr) (c:Nat) (w:World):(Instr.arrayAt 188 (.slice a 512 c)).run prog w= .ok (.pointer a) w:=by
 simp [Instr.arrayAt,run_underlying underlying188]
def uN:∀v∈aM.toList,v.oneCell'=true:=bD (zs 512)
def uO:(prog.info? 188).map (·.size)=some aM.toList.length:=gD (l:=zs 512) (bN 512)
def nR (a:Option Addr) (n c:Nat) (w:World) (d:n≠512):
  Calls prog 181 #[.slice a n c] w λe w'=>e= .returned (.tuple #[.agg aM, .bool false])/\bW w w':=by
 have f:=gN;have h1:(((n:Int)) != 512)=true:=by rw [rO];omega
 have aJ:=uO;have cY:=uN;generalize aM=Z at*;have bd:(w.alloc (.cells Z 188)).heap[w.heap.size]? =some (.cells Z 188 (0,0)):=heap_alloc_new _ _;have cC:(w.alloc (.cells Z 188)).there w.heap.size 0 Z.toList.length:=aZ bd (by simp);have bC:Z.all Value.oneCell'=true:=all_oneCell_toArray cY;have aH:bW w (w.alloc (.cells Z 188)):=(cW _ w).alloc (di _) _;go_in;go_wp2_with (refine wpList_store_mid rfl 188 _ _ rfl w.heap.size 0 Z rfl rfl ?h1 ?h2 bC ?_);case h1=>simpa using cC
 case h2=>simpa using aJ
 exact bodyPost_ret (results_cell_tmp (P:=prog) rfl _ _ w.heap.size Z.toList _ _ rfl rfl (World.rangeAt_setCells_same _ w.heap.size 0 Z.toList cC) underlying188 rfl aJ) rfl ⟨rfl,aH.trans ((ad.setCells (F:=λj=>j=w.heap.size) rfl Z.toList 0 _).below (λj b=>by omega) aH.size)⟩
def ll (b o c:Nat) (l:List Int) (w:World) (a:Src w (some (aD b o)) 512 l):
  Calls prog 181 #[.slice (some (aD b o)) 512 c] w λe w'=>e= .returned (.tuple #[.agg (bs l).toArray, .bool true])/\bW w w':=by
 have f:=gN;have Tg:=LV (some (aD b o)) c;have aH:bW w (w.alloc (.cells aM 188)):=(cW _ w).alloc (di _) _;have oH:=l6 (a.later aH);have aJ:=gD (l:=l) a.1;have cY:=bD l;have bd:(w.alloc (.cells aM 188)).heap[w.heap.size]? =some (.cells aM 188 (0,0)):=heap_alloc_new _ _;have cC:=aZ bd bL;have qI:(bs l).length=512:=by rw [bs,ju,a.1]
 generalize bs l=F at*;rw [<-qI] at cC;have wm:=(World.rangeAt_setCells_same _ w.heap.size 0 F cC);have bC:=all_oneCell_toArray cY;have rT:=(aH.trans ((ad.setCells (F:=λj=>j=w.heap.size) rfl F 0 _).below (λj d=>by omega) aH.size));go_in;go_wp2_with (first|refine wpList_load_mid rfl 188 _ rfl b o rfl F _ oH underlying188 rfl aJ ?_|refine wpList_store_mid rfl 188 _ _ rfl w.heap.size 0 F.toArray rfl rfl ?h1 ?h2 bC ?_);case h1=>simpa using cC
 case h2=>simpa using aJ
 exact bodyPost_ret (results_cell_tmp (P:=prog) rfl _ _ w.heap.size F _ _ rfl rfl wm underlying188 rfl aJ) rfl ⟨rfl,rT⟩
def uf (w:World) (B:Nat) (v:Value) (l:List Int):Prop:=∃a c,v= .slice a l.length c/\Src w a l.length l/\l.length<=c/\∀x,a=some x->B<=x.block
def uf.nil (w:World) (B:Nat):uf w B (.slice none 0 0) []:=⟨none,0,rfl,⟨rfl,λ_=>rfl,λx a=>by cases a⟩,di _,λx a=>by cases a⟩
def uf.later {B:Nat} (h:uf w B v l) (b:bW w w'):uf w' B v l:=by
 obtain⟨a,c,rfl,e,d,f⟩:=h;exact⟨a,c,rfl,e.later b,d,f⟩
def gA.Wx {B:Nat} (h:gA w T g l) (a:B<=g):uf w B (.slice (some (aD g 0)) l.length l.length) l:=by
 refine⟨some (aD g 0),l.length,rfl,?_,di _,λx b=>by cases b;exact a⟩;have:=h.src (o:=0) (n:=l.length) (by omega);simpa using this
def pP:∀(c b:List Value) (cur:Array Value),w.heap[g]? =some (.cells cur T (0,0))->(∃a,cur.toList=b ++ a/\a.length=c.length)->
    (w.setCells g b.length c).heap[g]? =some (.cells (b ++ c).toArray T (0,0)):=by
 intro c
 induction c generalizing w with
 |nil=>
  intro b cur i ⟨a,d,f⟩;have:a= []:=Ef f;subst this;simp only [List.append_nil] at d⊢;show w.heap[g]? =_;rw [i,<-d]
 |cons v r j=>
  intro b cur i ⟨a,d,f⟩;cases a with
  |nil=>simp at f
  |cons u a=>
   have e:(cur.setIfInBounds b.length v).toList=(b ++ [v]) ++ a:=by
    rw [Array.toList_setIfInBounds,d,List.set_append_right _ _ (di _),Nat.sub_self];simp
   have:=j (w:=w.setCell ⟨g,b.length,none⟩ v) (b ++ [v]) _ (heap_setCell_same w g b.length cur T v i) ⟨a,e,by simpa using f⟩;simp only [World.setCells];simpa using this
def dC (a:w.heap[g]? =some (.cells cur T (0,0))) (b:cur.size=l.length):gA (w.setCells g 0 (bs l)) T g l:=
 pP (bs l) [] cur a ⟨cur.toList,rfl,by simp [bs,b]⟩
def LW (a:Option Addr) (n c:Nat) (a2:Option Addr) (m b:Nat) (w:World) (d:n≠512):
  Calls prog 192 #[.slice a n c, .slice a2 m b] w λe w'=>e= .returned (.tuple #[.slice none 0 0,iV 2])/\bW w w':=by
 obtain⟨i,f,aJ,cY⟩:=jJ gN (nR a n c w d) uO uN;generalize aM=Z at*;have bC:Z.all Value.oneCell'=true:=all_oneCell_toArray cY;go_in;go_wp2_with fail;refine ef f λw1 aq=>?_;have bd:(w1.alloc (.cells Z 188)).heap[w1.heap.size]? =some (.cells Z 188 (0,0)):=heap_alloc_new _ _;have cC:(w1.alloc (.cells Z 188)).there w1.heap.size 0 Z.toList.length:=aZ bd (by simp);have aH:bW w (w1.alloc (.cells Z 188)):=aq.alloc aq.size _;have fy:=aq.size;have rT:=(aH.trans ((ad.setCells (F:=λj=>j=w1.heap.size) rfl Z.toList 0 _).below (λj g=>by omega) aH.size));go_wp2_with (refine wpList_store_mid rfl 188 _ _ rfl w1.heap.size 0 Z rfl rfl ?h1 ?h2 bC ?_);case h1=>simpa using cC
 case h2=>simpa using aJ
 go_ret2;exact⟨rfl,rT⟩
def LX (b o c:Nat) (old:List Int) (a2:Option Addr) (m d:Nat) (w:World) (a:Src w (some (aD b o)) 512 old) (i:504<m):
  Calls prog 192 #[.slice (some (aD b o)) 512 c, .slice a2 m d] w λe w'=>e= .returned (.tuple #[.slice none 0 0,iV 7])/\bW w w':=by
 have k:=gN;have f:504<(m:Int):=by omega
 have gV:=ll b o c old w a;have aJ:=gD (l:=old) a.1;have cY:=bD old;have qI:(bs old).length=512:=by rw [bs,ju,a.1]
 generalize bs old=F at*;have bC:=all_oneCell_toArray cY;go_in;go_wp2_with fail;refine ef gV λw1 aq=>?_;have bd:(w1.alloc (.cells aM 188)).heap[w1.heap.size]? =some (.cells aM 188 (0,0)):=heap_alloc_new _ _;have cC:=aZ bd bL;rw [<-qI] at cC;have aH:bW w (w1.alloc (.cells aM 188)):=aq.alloc aq.size _;have fy:=aq.size;have rT:=yh (aH.trans ((ad.setCells (F:=λj=>j=w1.heap.size) rfl F 0 _).below (λj g=>by omega) aH.size));go_wp2_with (refine wpList_store_mid rfl 188 _ _ rfl w1.heap.size 0 F.toArray rfl rfl ?h1 ?h2 bC ?_);case h1=>simpa using cC
 case h2=>simpa using aJ
 go_ret2;exact⟨rfl,rT.out⟩
def PZ (b o c:Nat) (old:List Int) (a2:Option Addr) (m q:Nat) (body:List Int) (w:World) (f:Src w (some (aD b o)) 512 old) (dQ:Src w a2 m body) (y:m<=504) (v:Bytes body):
  Calls prog 192 #[.slice (some (aD b o)) 512 c, .slice a2 m q] w λe w'=>∃g,e= .returned (.tuple #[.slice (some (aD g 0)) 512 512,iV 0])/\gA w' 188 g (bc (cG (old.getD 0 0) (old.getD 511 0)) body)/\w.heap.size<=g/\bW w w':=by
 obtain⟨A,gV,aJ,cY⟩:=jJ gN (ll b o c old w f) (gD (l:=old) f.1) (bD old);have qI:(bs old).length=512:=by rw [bs,ju,f.1]
 obtain⟨Wy,bC,p,ZJ,z⟩:=gB f.1 (all_oneCell_toArray cY) (yh dQ) dQ.1 (fj (old.getD 0 0) (old.getD 511 0));obtain⟨t,tS⟩:=cF (cG (old.getD 0 0) (old.getD 511 0));rw [<-tS] at z;obtain⟨F,k⟩:=cF (bs old);rw [<-k] at gV aJ cY qI bC;clear cY f dQ;go_in;go_wp2_with fail;refine ef gV λw1 aq=>?_;have bd:(w1.alloc (.cells aM 188)).heap[w1.heap.size]? =some (.cells aM 188 (0,0)):=heap_alloc_new _ _;have cC:=aZ bd bL;rw [<-qI] at cC;have aH:bW w (w1.alloc (.cells aM 188)):=aq.alloc aq.size _;have fy:=aq.size;have eY:=aH.trans ((ad.setCells (F:=λj=>j=w1.heap.size) rfl F 0 _).below (λj x=>by omega) aH.size);have aA:=dC (l:=old) bd (by rw [bL,Wy]);rw [<-k] at aA;have IX:=my w1.heap.size 0 (old.getD 0 0) (old.getD 511 0) _ (aA.cell (by omega)) (aA.cell (i:=511) (by omega));rw [<-tS] at IX;have ZQ:=mA t a2 m q body _ (by omega) (p.o.later eY) y v;obtain⟨C,ed⟩:=cF ((w1.alloc (.cells aM 188)).setCells w1.heap.size 0 F);rw [<-ed] at IX ZQ eY;obtain⟨a,LZ⟩:=eA eY tS;clear gV bd aH aq aA eY tS k p;go_wp2_with (refine wpList_store_mid rfl 188 _ _ rfl w1.heap.size 0 F.toArray rfl rfl ?h1 ?h2 bC ?_);case h1=>simpa using cC
 case h2=>simpa using aJ
 rw [<-ed];refine ef IX λw' r=>?_;have fJ:=r.symm;subst fJ;clear r IX cC ed bC aJ;have nj:(bc t body).length=512:=eS (by omega);have aJ:=gD (l:=bc t body) nj;have bC:=all_oneCell_toArray (bD (bc t body));have zM:(bs (bc t body)).length=512:=by rw [bs,ju,nj]
 obtain⟨G,n⟩:=cF (bs (bc t body));rw [<-n] at ZQ aJ bC zM;have s:=yh n;clear n;go_wp2_with fail;refine ef ZQ λd bH=>?_;have gP:=a.o.trans (bH.mono a.o.size);have kB:(d.alloc (.cells aM 188)).heap[d.heap.size]? =some (.cells aM 188 (0,0)):=heap_alloc_new _ _;have cC:=aZ kB bL;rw [<-zM] at cC;have aA:=dC (l:=bc t body) kB (by rw [bL,nj]);rw [<-s.o] at aA;have II:=gP.size;have mu:bW w (d.alloc (.cells aM 188)):=gP.alloc gP.size _;rw [LZ.o] at aA;have u:=yh (aQ aA (aQ gP.size (mu.trans ((ad.setCells (F:=λj=>j=d.heap.size) rfl G 0 _).below (λj x=>by omega) mu.size))));clear ZQ gP kB aA mu bH a;go_wp2_with (refine wpList_store_mid rfl 188 _ _ rfl d.heap.size 0 G.toArray rfl rfl ?h1 ?h2 bC ?_);case h1=>simpa using cC
 case h2=>simpa using aJ
 go_ret2;exact⟨d.heap.size,rfl,u.o⟩
def tc {b:Array Oper} {rest:List Oper} {o:Oper} {a:Act} {Q:Exit->Act->World->Prop} (A3:o.guard=none) (s x:Operand)
    (wn:o.op=Op.call {callee:=Callee.builtin Builtin.append,args:= #[s,x],argTypes:= #[44,44]})
    (B:Nat) (v:Value) (l:List Int) (y:Int) (k:a.eval s=v) (m:a.eval x= .slice (some (aD w.heap.size 0)) 1 1) (bB:Own w B v l) (d:l.length<=140737488355327) (i:B<=w.heap.size)
    (j:∀c w',Own w' B c (l ++ [y])->Below B w w'->wpList prog b Q rest (a.put o.dst c) w'):
  wpList prog b Q (o :: rest) a (w.alloc (.cells #[.int .u8 y] 5)):=by
 obtain⟨n,hi,iX,eR,eE⟩:=info_parts gU;have f:w.ownsRow B 5 1 v l.length (bs l):=bB;refine wpList_append_own _ A3 s x 44 wn B 5 n (.int .u8 0) 1 1 underlying44 hi iX eR eE rfl (by decide) v l.length (bs l) k (f.alloc _) (aD w.heap.size 0) 1 1 [.int .u8 y] m rfl (cell_one_new _ _ _) (by intro u g;simp at g;subst g;rfl) (by unfold maxLen;omega) (by omega) (by simp;omega) ?_;intro c w1 cK jy _;refine j c w1 ?_ (((cW _ w).alloc i _).grown jy (by simp;omega) (λq e=>(f.lt q e).1));rw [GG] at cK;exact zC cK (by simp) rfl
def Own.Th {B:Nat} (h:Own w B v l) (h0:0<l.length):∃g c,v= .slice (some (aD g 0)) l.length c/\B<=g/\ao w 5 g c (bs l):=by
 obtain⟨a,c,rfl,_,_,_⟩:=h.src;obtain⟨g,rfl,_,b,d⟩:=h.row h0;exact⟨g,c,rfl,b,d⟩
def ao.get (h:ao w e g c (bs l)) (hi:i<l.length):w.cell? (aD g i)=some (.int .u8 (l.getD i 0)):=by
 have:=h.byte hi;rwa [aV,Nat.zero_add] at this
def bA (ms:CM):List Int:=br 2 ms.length ++ (ms.flatMap (λq=>br 4 q.1) ++ ms.flatMap (·.2))
def sg (ms:CM):(ms.flatMap (λq=>br 4 q.1)).length=4*ms.length:=by
 induction ms with
 |nil=>rfl
 |cons q b a=>simp only [List.flatMap_cons,gT,aP,a,List.length_cons];omega
def xK (h:∀q∈ms,q.2.length=512):(ms.flatMap (·.2)).length=512*ms.length:=by
 induction ms with
 |nil=>rfl
 |cons q c b=>
  simp only [List.flatMap_cons,gT,b (λx a=>h x (List.mem_cons_of_mem _ a)),h q List.mem_cons_self,List.length_cons];omega
def sh (h:∀q∈ms,q.2.length=512):(bA ms).length=2+516*ms.length:=by
 unfold bA;rw [gT,gT,aP,sg,xK h];omega
def zN (a:Option Addr) (n c:Nat) (w:World) (d:n<=140737488355328):
  Calls prog 149 #[.slice a n c] w λe w'=>e= .returned (iV (((n+491) / 492:Nat):Int))/\w'=w:=by
 have b:(n:Int)+492-1=((n+491:Nat):Int):=by omega
 go_in;go_wp2;go_ret;refine⟨?_,rfl⟩;refine congrArg (λz=>Ending.returned (iV z)) ?_;first|(rw [b];omega)|omega
def uP (B:Nat) (w':World) (l:List Int) (e:Ending):Prop:=∃v',e= .returned v'/\w'.ownsRow B 5 1 v' l.length (bs l)
def BD {B:Nat} (h:w.ownsRow B 5 1 v l.length (bs l)) (o:B<=w.heap.size) (N k:Nat) (r:k<=4) (s:l.length<=1000000):
  Calls prog 175 #[v,iV (N:Int),iV (k:Int)] w λe w'=>uP B w' (l ++ br k N) e/\Below B w w':=by
 obtain⟨g,zo,iX,eR,eE⟩:=info_parts gU;go_in;go_wp2;go_loopw [0,9] (λu i wr=>∃j:Nat,j<=k/\i=iV (j:Int)/\wr.ownsRow B 5 1 u (l ++ br j N).length (bs (l ++ br j N))/\Below B w wr) (λ_ i _=>k-(intOf i).toNat);case atStart=>exact⟨0,iq _,rfl,by simpa [br] using h,cW _ _⟩
 case round=>
  obtain⟨j,p,rfl,aU,b⟩:=hrel;have IY:=b.size;by_cases aS:j<k
  .have cH:(j:Int)<(k:Int):=(by omega);have a:=aP j N;have RL:(0:Int)<=8*(j:Int):=(by omega);have tT:=aU;have qI:(l ++ br j N).length+1<=1000010:=(by rw [gT,a];omega);go_wp2_with (at_builtin;refine wpList_append_own _ rfl _ _ 44 rfl B 5 g (.int .u8 0) 1 1 underlying44 zo iX eR eE rfl (by decide) _ _ _ rfl (tT.alloc _) (aD wr.heap.size 0) 1 1 [.int .u8 ((N / 2 ^ (8*j)%256:Nat):Int)] rfl rfl (cell_one_new _ _ _) (ints_oneCell .u8 [((N / 2 ^ (8*j)%256:Nat):Int)]) (by unfold maxLen;omega) (by omega) (by simp;omega) ?_);intro m n cK bS lZ;have sf:=λq e=>(aU.lt q e).1;have bH:=(b.alloc (by omega) _).grown bS (by simp;omega) (λq e=>sf q e);have g9:n.ownsRow B 5 1 m (l ++ br (j+1) N).length (bs (l ++ br (j+1) N)):=by
    have d:(l ++ br j N ++ [((N / 2 ^ (8*j)%256:Nat):Int)]).length=(l ++ br j N).length+1:=(by simp only [gT,List.length_singleton]);have f:bs (l ++ br j N ++ [((N / 2 ^ (8*j)%256:Nat):Int)])=bs (l ++ br j N) ++ [.int .u8 ((N / 2 ^ (8*j)%256:Nat):Int)]:=(by simp only [bs,List.map_append,List.map_cons,List.map_nil]);rw [qL,<-GC,d,f,gT,a];simpa [bs] using cK
   go_wp2;go_roundw;case rel=>exact⟨j+1,by omega,by go_num,g9,bH⟩
   case measure=>simp [intOf];omega
  .have cH:¬(j:Int)<(k:Int):=(by omega);obtain rfl:j=k:=(by omega);have c:=(aQ aU b);go_wp2;go_ret;exact⟨⟨_,rfl,c.1⟩,c.2⟩
def dH (h:l.length=512):(prog.info? 113).map (·.size)=some (bs l).length:=by
 obtain⟨i,hi,a⟩:=Option.map_eq_some_iff.1 GK;simp only [Prod.mk.injEq] at a;rw [hi,bs,ju,h,<-a.2];rfl
def dO (w:World) {c:List Int} (a:c.length=512):gA ((w.alloc (.cells aM 113)).setCells w.heap.size 0 (bs c)) 113 w.heap.size c/\Below w.heap.size w ((w.alloc (.cells aM 113)).setCells w.heap.size 0 (bs c))/\(w.alloc (.cells aM 113)).there w.heap.size 0 (bs c).length:=by
 have bd:(w.alloc (.cells aM 113)).heap[w.heap.size]? =some (.cells aM 113 (0,0)):=heap_alloc_new _ _;have aH:Below w.heap.size w (w.alloc (.cells aM 113)):=(cW _ w).alloc (di _) _;refine⟨dC (l:=c) bd (by rw [bL,a]),aH.trans ((ad.setCells (F:=λj=>j=w.heap.size) rfl (bs c) 0 _).below (λj b=>by omega) aH.size),?_⟩;rw [bs,ju,a];exact(aZ bd bL)
def gA.news (h:gA w T g l):∀j u,(bs l)[j]? =some u->w.cell? (((aD g 0):Addr).add j)=some u:=λj u b=>by
 obtain⟨a,rfl⟩:=eG b;rw [aV,Nat.zero_add];exact h.cell a
def lq {W W':World} {B:Nat} {xs:List Value} (h:W.ownsRow B e 1 v n xs) (f:∀g,v.ownBlock=some g->W'.heap[g]? =W.heap[g]?):W'.ownsRow B e 1 v n xs:=by
 obtain⟨b,⟨e,c⟩|⟨g,a,cur,rfl,i,ia,d⟩⟩:=h
 .exact⟨b, .inl ⟨e,c⟩⟩
 .exact⟨b, .inr ⟨g,a,cur,rfl,i,(f g rfl).trans ia,d⟩⟩
def zO (a:j<ms.length):(A2 (CM.keys ms))[j]? =some (iV ((ms[j]).1:Int)):=by
 simp [A2,CM.keys,a]
def Ex {m:Nat} (h:Ch w m ms):
  Calls prog 148 #[.map (some m)] w λe w'=>(∃B,w.heap.size<=B/\uP B w' (bA ms) e)/\bW w w':=by
 obtain⟨J,zo,iX,eR,eE⟩:=info_parts gU;obtain⟨h1,PT,d,dw⟩:=jJ (s8 h) h.small h.len h.ok;have rP:(CM.keys ms).length=ms.length:=by simp [CM.keys]
 rw [rP] at h1;have L0:=gO;have D:=yh h;clear h;go_in;go_wp2_with fail;refine h1.mono ?_;rintro e w1 ⟨a,c,rfl,aU,aq⟩;have Wz:=aq.size;have dD:=BD (w:=w1) (B:=w1.heap.size) (v:= .slice none 0 0) (l:= []) (World.ownsRow_nil _ _ _ _) (di _) ms.length 2 (by omega) (by simp);rw [show ((2:Nat):Int)=2 from rfl] at dD;obtain⟨P0,ew⟩:=eA aU aq;clear h1 aU aq;go_wp2_with fail;refine dD.mono ?_;rintro e O ⟨⟨L,rfl,uQ⟩,aG⟩;rw [List.nil_append] at uQ;have n:=yh (aQ uQ aG);clear dD uQ aG;go_wp2;go_loopw [4,17] (λu i wr=>∃j:Nat,j<=ms.length/\i=iV (j:Int)/\wr.ownsRow w1.heap.size 5 1 u (br 2 ms.length ++ (ms.take j).flatMap (λq=>br 4 q.1)).length (bs (br 2 ms.length ++ (ms.take j).flatMap (λq=>br 4 q.1)))/\bW w1 wr) (λ_ i _=>ms.length-(intOf i).toNat);case atStart=>exact⟨0,iq _,rfl,by simpa using n.o.1,n.o.2⟩
 case round=>
  clear n;obtain⟨j,I,rfl,bB,b⟩:=hrel;have IY:=b.size;by_cases aS:j<ms.length
  .have cH:(j:Int)<(ms.length:Int):=(by omega);have P5:(0:Int)<=(j:Int):=(by omega);obtain⟨g,rfl,H,p⟩:=P0.o (by simp [CM.keys];intro e;rw [e] at aS;simp at aS);have ZR:=(p.agree (b.block g p.lt)).cell (zO aS);have k:=d _ (List.getElem_mem aS);have ir:=BD bB IY (ms[j]).1 4 (by omega) (by
    rw [gT,aP,sg,Iz];omega)
   rw [show ((4:Nat):Int)=4 from rfl,GC,show (ms.take j).flatMap (λq=>br 4 q.1) ++ br 4 (ms[j]).1=(ms.take (j+1)).flatMap (λq=>br 4 q.1) by rw [List.take_succ_eq_append_getElem aS,List.flatMap_append];simp] at ir;have r:=yh b;clear p bB b;generalize (ms[j]).1=K at*;go_wp2_with fail;refine ir.mono ?_;rintro e y ⟨⟨M,rfl,L3⟩,bH⟩;have f:=yh (aQ L3 (r.o.trans bH));clear ir L3 bH;go_wp2;go_roundw;case rel=>exact⟨j+1,by omega,by go_num,f.o⟩
   case measure=>simp [intOf];omega
  .have cH:¬(j:Int)<(ms.length:Int):=(by omega);obtain rfl:j=ms.length:=(by omega);rw [List.take_length] at bB;have f:=yh (aQ bB b);clear bB b
   rename World=>wo
   go_wp2;go_loopw [4,27] (λu i wr=>∃j:Nat,j<=ms.length/\i=iV (j:Int)/\wr.ownsRow w1.heap.size 5 1 u (br 2 ms.length ++ ((ms.flatMap λq=>br 4 q.1) ++ (ms.take j).flatMap (·.2))).length (bs (br 2 ms.length ++ ((ms.flatMap λq=>br 4 q.1) ++ (ms.take j).flatMap (·.2))))/\bW w1 wr) (λ_ i _=>ms.length-(intOf i).toNat);case atStart=>exact⟨0,iq _,rfl,by simpa using f.o.1,f.o.2⟩
   case round=>
    clear f;obtain⟨j,I,rfl,bB,b⟩:=hrel;have IY:=b.size;by_cases aS:j<ms.length
    .have r8:(j:Int)<(ms.length:Int):=(by omega);have P5:(0:Int)<=(j:Int):=(by omega);obtain⟨g,rfl,H,p⟩:=P0.o (by simp [CM.keys];intro e;rw [e] at aS;simp at aS);have ZR:=(p.agree (b.block g p.lt)).cell (zO aS);have k:=d _ (List.getElem_mem aS);have bu:=dO wr k.2.1;have aJ:=dH k.2.1;have cY:=bD (ms[j]).2;have qN:(bs (ms[j]).2).length=512:=(by rw [bs,ju,k.2.1]);have L4:br 2 ms.length ++ ((ms.flatMap λq=>br 4 q.1) ++ (ms.take (j+1)).flatMap (·.2))=br 2 ms.length ++ ((ms.flatMap λq=>br 4 q.1) ++ (ms.take j).flatMap (·.2)) ++ (ms[j]).2:=by
      rw [List.take_succ_eq_append_getElem aS,List.flatMap_append];simp
     have qI:(br 2 ms.length ++ ((ms.flatMap λq=>br 4 q.1) ++ (ms.take j).flatMap (·.2))).length<=2000000:=by
      rw [gT,gT,aP,sg,xK (λq k=>(d q (List.mem_of_mem_take k)).2.1),Iz];omega
     have si:(br 2 ms.length ++ ((ms.flatMap λq=>br 4 q.1) ++ (ms.take (j+1)).flatMap (·.2))).length=(br 2 ms.length ++ ((ms.flatMap λq=>br 4 q.1) ++ (ms.take j).flatMap (·.2))).length+512:=(by rw [L4,gT,k.2.1]);have O1:bs (br 2 ms.length ++ ((ms.flatMap λq=>br 4 q.1) ++ (ms.take (j+1)).flatMap (·.2)))=bs (br 2 ms.length ++ ((ms.flatMap λq=>br 4 q.1) ++ (ms.take j).flatMap (·.2))) ++ bs (ms[j]).2:=(by rw [L4];simp only [bs,List.map_append]);have s:=yh (aQ si O1);generalize br 2 ms.length ++ ((ms.flatMap λq=>br 4 q.1) ++ (ms.take j).flatMap (·.2))=X at*;have L5:=bu.1.news;obtain⟨A,t⟩:=cF (bs (ms[j]).2);rw [<-t] at aJ cY qN L5 bu;have Ti:(Instr.lookup 94 (.map (some m)) (iV ((ms[j]).1:Int)) false).run prog wr= .ok (.agg A.toArray) wr:=(by rw [t];exact(((D.o.later ew.o).later b).read (ms[j]).1 (CM.get_of_mem dw (List.getElem_mem aS))));have C:=yh t;have bC:=all_oneCell_toArray cY;obtain⟨z,A4⟩:=cF ((wr.alloc (.cells aM 113)).setCells wr.heap.size 0 A);have cC:=bu.2.2;have td:bW wr z:=(by rw [A4];exact bu.2.1);have BB:=lq bB (λq k=>td.block q (by have:=(bB.lt q k).2;omega));have L6:∀j u,A[j]? =some u->z.cell? (((aD wr.heap.size 0):Addr).add j)=some u:=(by rw [A4];exact L5);obtain⟨GL,WA,Tj⟩:=pJ BB L6 A4;have sf:=λq e=>(bB.lt q e).1;have r:=yh (aQ b td);clear bu p bB b BB L5 L6 td t si O1 L4 k;generalize (ms[j]).1=K at*;generalize aM=Z at*;go_wp2_with (first|refine wpList_store_mid rfl 113 _ _ rfl wr.heap.size 0 A.toArray rfl rfl ?h1 ?h2 bC ?_|(rw [<-Tj.o];at_builtin;refine wpList_append_own _ rfl _ _ 44 rfl w1.heap.size 5 J (.int .u8 0) 1 1 underlying44 zo iX eR eE rfl (by decide) _ _ _ rfl GL.o (aD wr.heap.size 0) 512 512 A rfl ?n0 WA.o ?n2 ?n3 ?n4 ?n5 ?_));case h1=>rw [qN] at cC;simpa using cC
     case n2=>exact cY
     case n3=>unfold maxLen;omega
     case n4=>omega
     case n5=>rw [<-Tj.o];have:=r.o.2.size;omega
     intro x y cK bS lZ;rw [<-Tj.o] at bS;have bH:=(r.o.1.trans (r.o.2.mono IY)).grown bS (by have:=r.o.2.size;omega) (λq e=>sf q e);have g9:uP w1.heap.size y (br 2 ms.length ++ ((ms.flatMap λq=>br 4 q.1) ++ (ms.take (j+1)).flatMap (·.2))) (.returned x):=by
      refine⟨x,rfl,?_⟩;rw [s.o.1,s.o.2,<-C.o];simpa [bs] using cK
     have f:=yh (aQ g9 bH);clear cK bS lZ g9 bH;go_wp2;go_roundw;case rel=>
      obtain⟨⟨N,E,G⟩,F⟩:=f.o;cases E;exact⟨j+1,by omega,by go_num,G,F⟩
     case measure=>simp [intOf];omega
    .have r8:¬(j:Int)<(ms.length:Int):=(by omega);obtain rfl:j=ms.length:=(by omega);rw [List.take_length] at bB;have f:=yh (aQ bB (ew.o.trans (b.mono Wz)));clear bB b;go_wp2;go_ret;exact⟨⟨w1.heap.size,Wz,_,rfl,f.o.1⟩,f.o.2⟩
def sd.meets {m:Nat} {D:DataW Value} (h:sd w m ms D) {d:Array Value} {b:Lit} {y:DataW Value} {l:List MemPlace} (gu:keyOf prog 3 (iV x)=some b) (i:Ra (.agg d)=some (y,l)) (k7:∀zd,D.atKey b zd=y):
  ∃(k:Nat) (c:List Int),x=(k:Int)/\b=kk k/\CM.get ms k=some c/\Value.agg d=cV c:=by
 obtain⟨k,j,rP,g⟩:=h.met gu k7;obtain⟨c,e⟩:=Option.isSome_iff_exists.1 g;refine⟨k,c,j,rP,e,?_⟩;have a:=(h.at' k c e).2 (.held (.bool false));rw [<-rP,k7] at a;obtain⟨f,_⟩:=zH i;rw [f] at a;exact qM a
abbrev P3:=Int×Int×Int
def p3 (l:List P3):List Value:=l.flatMap (λq=> [iV q.1,iV q.2.1,iV q.2.2])
def DS.wr (S:DS) (s:Nat) (x:Int) (n:Nat) (l:List Int):Int×DS:=
 if S.fuse=0 then (3,S) else if x<0\/(s:Int)<=x then (11,S.refuse) else if n≠512 then (2,S.refuse) else (0,(S.put x.toNat l).wrote.iG)
def DS.rd (S:DS) (s:Nat) (x:Int):Int×DS×List Int:=
 if S.fuse=0 then (3,S, []) else if x<0\/(s:Int)<=x then (11,S.refuse, []) else (0,S.read,S.now x.toNat)
def DS.fl (S:DS) (s:Nat):Int×DS:=if S.fuse=0 then (3,S) else (0,(S.flush s).iG)
def aI.more (h:aI w' F p s S):aI w' (more F w w') p s S:=
 h.mono (λ_ a=> .inl a) (λk a=>by rcases a with a|a;exact h.lt k a;exact a.2)
def sj (h:aI w F p s S) (x:Int) (a:Option Addr) (n c:Nat) (l:List Int) (m:Src w a n l) (bn:S.puts.length+1<=4000000000000):
  Calls prog 49 #[pQ p,iV x, .slice a n c] w λe w'=>e= .returned (iV (S.wr s x n l).1)/\aI w' (more F w w') p s (S.wr s x n l).2/\ad F w w':=by
 by_cases b:S.fuse=0
 .simp only [DS.wr,b,if_true];refine(Et h x a n c b).mono ?_;rintro e w' ⟨rfl,rfl⟩;exact⟨rfl,h.more,ad.refl _ _⟩
 .by_cases d:x<0\/(s:Int)<=x
  .simp only [DS.wr,b,if_false,d,if_true];refine(Bz h x a n c b d).mono ?_;rintro e w' ⟨rfl,f,g⟩;exact⟨rfl,f.more,g⟩
  .obtain⟨k,rfl⟩:∃k:Nat,x=(k:Int):=⟨x.toNat,by omega⟩;have j:k<s:=(by omega);by_cases i:n=512
   .subst i;simp only [DS.wr,b,if_false,d,ne_eq,not_true_eq_false,t7];obtain⟨y,rfl⟩:∃y,a=some y:=by
     cases a with
     |none=>have:=m.2.1 rfl;omega
     |some y=>exact⟨y,rfl⟩
    exact Lv h k j b (by omega) y c l m
   .simp only [DS.wr,b,if_false,d,ne_eq,i,not_false_eq_true,if_true];refine(zK h k a n c b j i).mono ?_;rintro e w' ⟨rfl,f,g⟩;exact⟨rfl,f.more,g⟩
def Out (lo:Nat) (w:World) (l:List Int) (v:Value):Prop:=∃a c,v= .slice a l.length c/\Src w a l.length l/\∀x,a=some x->lo<=x.block
def Out.nil (lo:Nat) (w:World):Out lo w [] (.slice none 0 0):=⟨none,0,rfl,⟨rfl,λ_=>rfl,λx a=>by cases a⟩,λx a=>by cases a⟩
def Out.row (h:ao w 5 g c (bs l)) (a:lo<=g):Out lo w l (.slice (some (aD g 0)) l.length c):=⟨_,c,rfl,h.src,λx b=>by cases b;exact a⟩
def qO (h:aI w F p s S) (x:Int) (bn:S.puts.length+1<=4000000000000):
  Calls prog 102 #[pQ p,iV x] w λe w'=>∃v,e= .returned (.tuple #[v,iV (S.rd s x).1])/\Out w.heap.size w' (S.rd s x).2.2 v/\aI w' F p s (S.rd s x).2.1/\ad F w w':=by
 by_cases a:S.fuse=0
 .simp only [DS.rd,a,if_true];refine(xz h x a).mono ?_;rintro e w' ⟨rfl,rfl⟩;exact⟨_,rfl,Out.nil _ _,h,ad.refl _ _⟩
 .by_cases f:x<0\/(s:Int)<=x
  .simp only [DS.rd,a,if_false,f,if_true];refine(Ei h x a f).mono ?_;rintro e w' ⟨rfl,b,d⟩;exact⟨_,rfl,Out.nil _ _,b,d⟩
  .obtain⟨k,rfl⟩:∃k:Nat,x=(k:Int):=⟨x.toNat,by omega⟩;have i:k<s:=(by omega);simp only [DS.rd,a,if_false,f,t7];refine(GF h k a i (by omega)).mono ?_;rintro e w' ⟨g,c,rfl,j,l,b,d⟩;have:=Out.row l j;rw [bT h.ok k i] at this;exact⟨_,rfl,this,b,d⟩
def yY (h:aI w F p s S) (bn:S.puts.length+1<=4000000000000):
  Calls prog 50 #[pQ p] w λe w'=>e= .returned (iV (S.fl s).1)/\aI w' F p s (S.fl s).2/\ad F w w':=by
 by_cases a:S.fuse=0
 .simp only [DS.fl,a,if_true];refine(Gv h a).mono ?_;rintro e w' ⟨rfl,rfl⟩;exact⟨rfl,h,ad.refl _ _⟩
 .simp only [DS.fl,a,if_false];exact OV h a (by omega)
def Src.tM {B:Nat} {a:Option Addr} (h:Src w a n l) (d:Below B w w') (c:∀x,a=some x->0<n->x.block<B):Src w' a n l:=
   ⟨h.1,h.2.1,λx b i hi=>(World.cell?_of_block (w:=w) (by rw [jd];exact d.block _ (c x b (by omega)))).trans (h.2.2 x b i hi)⟩
def Out.keeps (h:Out lo w l v) (n:ad F w w') (j:∀k,F k->k<lo):Out lo w' l v:=by
 obtain⟨a,c,rfl,b,f⟩:=h;refine⟨a,c,rfl,⟨b.1,b.2.1,λx g i hi=>?_⟩,f⟩;have d:=b.2.2 x g i hi;have e:=World.block_lt_of_cell? _ _ d;rw [jd] at e;exact(World.cell?_of_block (w:=w) (by rw [jd];exact n.block _ e (λm=>by have:=j _ m;have:=f x g;omega))).trans d
def jL (S:DS) (s:Nat) (x:Int) (n:Nat) (l:List Int):(S.wr s x n l).2.puts.length<=S.puts.length+1:=by
 unfold DS.wr;split
 .simp
 .split
  .simp [DS.refuse]
  .split
   .simp [DS.refuse]
   .simp [DS.put,DS.wrote,DS.iG]
def Iy (S:DS) (s:Nat):(S.fl s).2.puts.length<=S.puts.length+1:=by
 unfold DS.fl;split
 .simp
 .simp [DS.flush,DS.iG]
def an (w:World) (o:Obj):bW w (w.alloc o):=(cW _ _).alloc (di _) _
abbrev jg (p:Nat) (f n:Int):Value:= .agg #[pQ p,iV f,iV n]
def BE (p:Nat) (f n:Int) (w:World) (a:0<=f) (IZ:f<=100000) (b:0<=n) (zJ:n<=100000):
  Calls prog 130 #[jg p f n] w λe w'=>e= .returned (iV (f+2+n))/\bW w w':=by
 go_in;go_wp2;go_ret;exact⟨rfl,(cW w.heap.size w).alloc (di _) (.cells #[.pointer (some ⟨p,0,none⟩), .int .i64 f, .int .i64 n] 136)⟩
def GN (p:Nat) (f n x:Int) (w:World) (g:0<=f) (IZ:f<=100000) (i:1<=n) (zJ:n<=100000) (a:0<=x):
  Calls prog 166 #[jg p f n,iV x] w λe w'=>e= .returned (iV (f+2+x%n))/\bW w w':=by
 have b:0<=x%n:=Int.emod_nonneg _ (by omega);have c:x%n<n:=Int.emod_lt_of_pos _ (by omega);have d:x.tmod n=x%n:=V5 a;generalize x%n=y at*;go_in;go_wp2
 go_region
 go_wp2;go_ret;exact⟨rfl,ah ((cW w.heap.size w).alloc (di _) (.cells #[.pointer (some ⟨p,0,none⟩), .int .i64 f, .int .i64 n] 136))⟩
def cP (S:DS) (s:Nat) (f n:Int):Int:=
 if S.fuse=0 then 3 else if f<0\/(s:Int)<=f then 11 else if n<18\/256<n then 1 else if (s:Int)<f+2+n then 11 else 0
def aI.boxed (h:aI w F p s S) (o:Obj):aI (w.alloc o) F p s S:=
 h.ak (ad.ag (λ_=>False) ((cW w.heap.size w).alloc (di _) o)) (λ_ _ h=>h)
def BF (h:aI w F p s S) (f n:Int) (v:s<=2048):
  Calls prog 94 #[jg p f n] w λe w'=>e= .returned (iV (cP S s f n))/\bW w w':=by
 have c:=(cW w.heap.size w).alloc (di _) (.cells #[.pointer (some ⟨p,0,none⟩), .int .i64 f, .int .i64 n] 136);have d:=uy (h.boxed (.cells #[.pointer (some ⟨p,0,none⟩), .int .i64 f, .int .i64 n] 136));have b:=fM (h.boxed (.cells #[.pointer (some ⟨p,0,none⟩), .int .i64 f, .int .i64 n] 136));have i:=BE p f n (w.alloc (.cells #[.pointer (some ⟨p,0,none⟩), .int .i64 f, .int .i64 n] 136));unfold cP;go_in;by_cases g:S.fuse=0
 .rw [show (S.fuse == 0)=true by simp [g]] at b;rw [aN g];go_wp2_with (first|(go_at_call 46;refine d.mono ?_;rintro e w' ⟨rfl,a⟩;subst a)|(go_at_call 44;refine b.mono ?_;rintro e w' ⟨rfl,a⟩;subst a));go_ret;exact⟨rfl,c⟩
 .rw [show (S.fuse == 0)=false by simp [g]] at b;rw [aB g];by_cases j:f<0\/(s:Int)<=f
  .rw [aN j];by_cases o:f<0
   .clear j;go_wp2_with (first|(go_at_call 46;refine d.mono ?_;rintro e w' ⟨rfl,a⟩;subst a)|(go_at_call 44;refine b.mono ?_;rintro e w' ⟨rfl,a⟩;subst a));go_ret;exact⟨rfl,c⟩
   .have q:(s:Int)<=f:=(by omega);go_wp2_with (first|(go_at_call 46;refine d.mono ?_;rintro e w' ⟨rfl,a⟩;subst a)|(go_at_call 44;refine b.mono ?_;rintro e w' ⟨rfl,a⟩;subst a));go_ret;exact⟨rfl,c⟩
  .rw [aB j];have o:¬f<0:=(by omega);have q:¬(s:Int)<=f:=(by omega);by_cases k:n<18\/256<n
   .rw [aN k];by_cases r:n<18
    .clear k;go_wp2_with (first|(go_at_call 46;refine d.mono ?_;rintro e w' ⟨rfl,a⟩;subst a)|(go_at_call 44;refine b.mono ?_;rintro e w' ⟨rfl,a⟩;subst a));go_ret;exact⟨rfl,c⟩
    .have t:256<n:=(by omega);go_wp2_with (first|(go_at_call 46;refine d.mono ?_;rintro e w' ⟨rfl,a⟩;subst a)|(go_at_call 44;refine b.mono ?_;rintro e w' ⟨rfl,a⟩;subst a));go_ret;exact⟨rfl,c⟩
   .rw [aB k];have r:¬n<18:=(by omega);have t:¬256<n:=(by omega);have i:=i (by omega) (by omega) (by omega) (by omega);by_cases m:(s:Int)<f+2+n
    .rw [aN m];go_wp2_with (first|(go_at_call 46;refine d.mono ?_;rintro e w' ⟨rfl,a⟩;subst a)|(go_at_call 44;refine b.mono ?_;rintro e w' ⟨rfl,a⟩;subst a));refine ef i λu l=>?_;go_wp2;go_ret;exact⟨rfl,c.trans (l.mono c.size)⟩
    .rw [aB m];go_wp2_with (first|(go_at_call 46;refine d.mono ?_;rintro e w' ⟨rfl,a⟩;subst a)|(go_at_call 44;refine b.mono ?_;rintro e w' ⟨rfl,a⟩;subst a));refine ef i λu l=>?_;go_wp2;go_ret;exact⟨rfl,c.trans (l.mono c.size)⟩
def is {a:Option Addr} (h:Src w a n l) (c:0<n):∃b o,a=some (aD b o):=by
 cases a with
 |none=>have:=h.2.1 rfl;omega
 |some x=>
  obtain⟨b,o,rfl,_⟩:=h.spot c;exact⟨b,o,rfl⟩
def L7 (a:Option Addr) (n c:Nat) (old:List Int) (a2:Option Addr) (m d:Nat) (body:List Int) (w:World) (f:Src w a n old) (dQ:Src w a2 m body) (j:Bytes body):
  Calls prog 192 #[.slice a n c, .slice a2 m d] w λe w'=>∃v,e= .returned (.tuple #[v,iV (((ky old body).2:Nat):Int)])/\uf w' w.heap.size v (ky old body).1/\bW w w':=by
 have q:=f.1;have r:=dQ.1;by_cases i:n=512
 .subst i;obtain⟨b,o,rfl⟩:=is f (by omega);by_cases p:504<m
  .refine(LX b o c old a2 m d w f p).mono ?_;rintro e w' ⟨rfl,wL⟩;have e:ky old body=([],7):=(by unfold ky;rw [aB (by omega),aN (by omega)]);rw [e];exact⟨_,rfl,uf.nil _ _,wL⟩
  .refine(PZ b o c old a2 m d body w f dQ (by omega) j).mono ?_;rintro e w' ⟨g,rfl,aA,k,wL⟩;have e:ky old body=(bc (cG (old.getD 0 0) (old.getD 511 0)) body,0):=(by unfold ky;rw [aB (by omega),aB (by omega)]);rw [e];have l:(bc (cG (old.getD 0 0) (old.getD 511 0)) body).length=512:=eS (by omega);have:=aA.Wx k;rw [l] at this;exact⟨_,rfl,this,wL⟩
 .refine(LW a n c a2 m d w i).mono ?_;rintro e w' ⟨rfl,wL⟩;have e:ky old body=([],2):=by unfold ky;rw [aN (by omega)]
  rw [e];exact⟨_,rfl,uf.nil _ _,wL⟩
def Ey {s:List Int} (h:s.length≠512):bZ s=([],2):=by unfold bZ;rw [aN h]
def te {s:List Int} (h:s.length=512) (a:fF s=none):bZ s=([],30):=by unfold bZ;rw [aB (by omega),a]
def BH {s b:List Int} (h:s.length=512) (a:fF s=some b):bZ s=(b,0):=by unfold bZ;rw [aB (by omega),a]
def I0 {s:List Int} (a:cM s<=504) (b:s.getD 0 0<=2) (c:bc (s.getD 0 0) (dG s)=s):fF s=some (dG s):=by unfold fF;rw [aN ⟨a,b,c⟩]
def BI {s:List Int} (h:¬(cM s<=504/\s.getD 0 0<=2/\bc (s.getD 0 0) (dG s)=s)):fF s=none:=by unfold fF;rw [aB h]
def GO {s:List Int} (h:Bytes s):((cM s:Nat):Int)=s.getD 1 0+256*s.getD 2 0:=by
 have a:=h.getD 1;have b:=h.getD 2;unfold cM;omega
def le2 {a b:Int} (c:0<=a) (d:0<=b):((le [a,b]:Nat):Int)=a+256*b:=by
 simp only [le];omega
def RN {s:List Int} (h:s.length=512):(s.drop 1).take 2= [s.getD 1 0,s.getD 2 0]:=by
 match s,h with
 |a :: b :: c :: r,_=>rfl
def kC {b o:Nat} (h:Src w (some (aD b o)) n l) {m:Nat} (d:i+m<=n):Src w (some ⟨b,o+i,none⟩) m ((l.drop i).take m):=
   ⟨by have:=h.1;simp;omega,(λe=>by cases e),λx c j a=>by
  cases c;have:=h.2.2 _ rfl (i+j) (by omega);rw [aV] at this⊢;rw [Nat.add_assoc,this];simp [List.getD,a]⟩
def ug (g o:Nat) (s:List Int) (w:World) (c:Src w (some (aD g o)) 512 s) (a:Bytes s) (BJ:504<cM s\/2<s.getD 0 0):
  Calls prog 205 #[.pointer (some (aD g o))] w λe w'=>e= .returned (.tuple #[.slice none 0 0, .bool false])/\w'=w:=by
 have j:=kC c (i:=1) (m:=2) (by omega);have f:=sb g (o+1) 2 2 ((s.drop 1).take 2) w ((a.drop _).take _) j.1 (by omega) (λi hi=>by have:=j.2.2 _ rfl i hi;rwa [aV] at this);rw [RN c.1,le2 (a.getD 1).1 (a.getD 2).1,<-(GO a)] at f;have k:=c.2.2 _ rfl 0 (by omega);rw [aV,Nat.add_zero] at k;have d:=a.getD 0;have l:=d.1;have n:=d.2;generalize s.getD 0 0=x at*;generalize cM s=N at*;clear c j d;go_in;go_wp2_with fail;refine(lg g o 1 3 w (by omega) (by omega)).mono ?_;rintro e w' ⟨rfl,b⟩;have fJ:=b.symm;subst fJ;clear b;go_wp2_with fail;refine ef f λw' b=>?_;have fJ:=b.symm;subst fJ;clear b f;by_cases q:2<x
 .have O3:3<=x:=by omega
  go_wp2;go_ret2;exact⟨rfl,rfl⟩
 .have O3:¬3<=x:=by omega
  have p:504<(N:Int):=by omega
  go_wp2;go_ret2;exact⟨rfl,rfl⟩
def uR {P:Program} {a:Act} {e:Oper} {K:Act->Prop} (c:TypeId) (x:Operand) (i:e.op= .load c x)
    (b o:Nat) (l:a.eval x= .pointer (some (aD b o))) (cs:List Value) (d:TypeDesc) (f:∀w,C w->w.rangeAt b o cs)
    (j:P.underlying c=some d) (hd:d.isRow=true) (hi:(P.info? c).map (·.size)=some cs.length) (g:K (a.put e.dst (.agg cs.toArray))):e.quiet P a C K:=
   ⟨_,λw k=>by
  unfold Oper.quietAt execOp;simp only [i,l,Instr.loadAt,Instr.sureAddr,Sem.run_bind,Sem.run_pure,Result.andThen_ok,run_loadVar_mid w b o c cs d (f w k) j hd hi];exact⟨rfl,rfl⟩,g⟩
def zP {a:Act} {b:Oper} {K:Act->Prop} (x y:Operand) (T:TypeId) (f:b.op= .binOp .eql 188 x y T)
    (l m:List Int) (g:a.eval x= .agg (bs l).toArray) (i:a.eval y= .agg (bs m).toArray) (d:l.length=512) (e:m.length=512) (c:K (a.put b.dst (.bool (decide (l=m))))):b.quiet prog a C K:=
   ⟨_,λw _=>by
  unfold Oper.quietAt execOp;simp only [f,g,i];have:=LD l m d e w x y;rw [Sem.run_bind,this];exact⟨rfl,rfl⟩,c⟩
def BK (g o:Nat) (s:List Int) (w:World) (a:Src w (some (aD g o)) 512 s) (c:Bytes s) (j:cM s<=504) (C:s.getD 0 0<=2):
  Calls prog 205 #[.pointer (some (aD g o))] w λe w'=>∃k,e= .returned (.tuple #[.slice (some (aD g k)) (cM s) (cM s), .bool (decide (bc (s.getD 0 0) (dG s)=s))])/\(0<cM s->k=o+7)/\bW w w':=by
 have y:=kC a (i:=1) (m:=2) (by omega);have v:=sb g (o+1) 2 2 ((s.drop 1).take 2) w ((c.drop _).take _) y.1 (by omega) (λi hi=>by have:=y.2.2 _ rfl i hi;rwa [aV] at this);rw [RN a.1,le2 (c.getD 1).1 (c.getD 2).1,<-(GO c)] at v;have u:=a.2.2 _ rfl 0 (by omega);rw [aV,Nat.add_zero] at u;have H:=c.getD 0;have L8:∃k,Src w (some (aD g k)) (cM s) (dG s)/\(0<cM s->k=o+7)/\Calls prog 184 #[.pointer (some (aD g o)),iV 7,iV (7+(cM s:Int))] w λe w'=>e= .returned (.slice (some (aD g k)) (cM s) (cM s))/\w'=w:=by
  by_cases h0:cM s=0
  .have RO:=LE g o 7 w (by omega);refine⟨o,⟨by rw [ki j a.1],(λe=>by cases e),λx C i hi=>by omega⟩,λh=>by omega,?_⟩;rw [h0];exact RO
  .have d:=lg g o 7 (7+cM s) w (by omega) (by omega);refine⟨o+7,kC a (i:=7) (m:=cM s) (by omega),λ_=>rfl,?_⟩;have F:7+cM s-7=cM s:=(by omega);rw [F] at d;have G:((7+cM s:Nat):Int)=7+(cM s:Int):=(by omega);rw [G] at d;exact d
 obtain⟨k,A,pR,d⟩:=L8;obtain⟨t,I⟩:∃t:Nat,s.getD 0 0=(t:Int):=⟨(s.getD 0 0).toNat,by omega⟩;have kj:Bytes (dG s):=(c.drop _).take _;rw [I] at u C⊢;have D:(∀q:nQ w,Calls prog 158 #[.int .u8 (t:Int), .slice (some (aD g k)) (cM s) (cM s)] q.to λe w'=>e= .returned (.agg (bs (bc t (dG s))).toArray)/\Below q.to.heap.size q.to w'):=
  λq=>mA t (some (aD g k)) (cM s) (cM s) (dG s) q.to (by omega) (A.later q.h) j kj
 have nj:(bc t (dG s)).length=512:=eS (by rw [(ki j a.1)];exact j);have oH:∀w',(∃q:nQ w,w'=q.to)->w'.rangeAt g o (bs s):=λw' ⟨q,e⟩=>by rw [e];exact l6 (a.later q.h)
 have E:∀q:nQ w,q.to.cell? (aD g o)=some (.int .u8 (t:Int)):=λq=>cell_later q.h u;obtain⟨n,p,f,r,WB⟩:=gB pR oH nj a.1 (gD (l:=s) a.1);clear a y H A pR kj nj oH;obtain⟨R,z⟩:=cF (bc t (dG s));rw [<-z] at D f⊢;clear z;generalize cM s=N at*;have gy:¬3<=(t:Int):=by omega
 go_in;go_wp2_with fail;refine(lg g o 1 3 w (by omega) (by omega)).mono ?_;rintro e w' ⟨rfl,b⟩;have fJ:=b.symm;subst fJ;clear b;go_wp2_with fail;refine ef v λw' b=>?_;have fJ:=b.symm;subst fJ;clear b v;go_wp2_with fail;refine ef d λw' b=>?_;have fJ:=b.symm;subst fJ;clear b d;go_wp2_with fail;have eM:=nQ.some w;refine tR (by kernel_rfl) (by kernel_rfl) ?_
 repeat (first|go_big_quiet_skip|(go_big_quiet_want;go_big_quiet_op;first|go_big_quiet_on|(apply Exists.intro;refine⟨λq=>?_,?_⟩;exact Calls.LA (D q);go_big_quiet_on)))
 go_big_quiet_want
 refine uR 188 _ rfl g o rfl (bs s) _ p underlying188 rfl WB ?_;simp only [Act.put,iA,jZ,jG]
 go_big_quiet_on
 go_big_quiet_want
 refine zP _ _ _ rfl R s rfl rfl f r ?_;simp only [Act.put,iA,jZ,jG]
 go_big_quiet_on
 repeat (go_big_quiet_want;go_big_quiet_op;go_big_quiet_on)
 refine wpQuiet_nil ?_;rintro _ ⟨q,rfl⟩;go_wp2;go_ret2;exact⟨k,rfl,n,q.h⟩
def I1 (a:Option Addr) (n c:Nat) (w:World) (b:n≠512):
  Calls prog 188 #[.slice a n c] w λe w'=>e= .returned (.tuple #[.slice none 0 0,iV 2])/\bW w w':=by
 obtain⟨g,d,aJ,cY⟩:=jJ gN (nR a n c w b) uO uN;generalize aM=Z at*;have bC:Z.all Value.oneCell'=true:=all_oneCell_toArray cY;go_in;go_wp2_with fail;refine ef d λw1 aq=>?_;have bd:(w1.alloc (.cells Z 188)).heap[w1.heap.size]? =some (.cells Z 188 (0,0)):=heap_alloc_new _ _;have cC:(w1.alloc (.cells Z 188)).there w1.heap.size 0 Z.toList.length:=aZ bd (by simp);have aH:bW w (w1.alloc (.cells Z 188)):=aq.alloc aq.size _;have fy:=aq.size;have rT:=(aH.trans ((ad.setCells (F:=λj=>j=w1.heap.size) rfl Z.toList 0 _).below (λj f=>by omega) aH.size));go_wp2_with (refine wpList_store_mid rfl 188 _ _ rfl w1.heap.size 0 Z rfl rfl ?h1 ?h2 bC ?_);case h1=>simpa using cC
 case h2=>simpa using aJ
 go_ret2;exact⟨rfl,rT⟩
def I2 (b o c:Nat) (s:List Int) (w:World) (p:Src w (some (aD b o)) 512 s) (g:Bytes s):
  Calls prog 188 #[.slice (some (aD b o)) 512 c] w λe w'=>∃v,e= .returned (.tuple #[v,iV (((bZ s).2:Nat):Int)])/\uf w' w.heap.size v (bZ s).1/\bW w w':=by
 obtain⟨E,gV,aJ,cY⟩:=jJ gN (ll b o c s w p) (gD (l:=s) p.1) (bD s);have qI:(bs s).length=512:=by rw [bs,ju,p.1]
 have kD:=p.1;have bC:=all_oneCell_toArray cY;obtain⟨F,r⟩:=cF (bs s);rw [<-r] at gV aJ cY qI bC;have C:=yh r;clear cY p r;go_in;go_wp2_with fail;refine ef gV λw1 aq=>?_;have bd:(w1.alloc (.cells aM 188)).heap[w1.heap.size]? =some (.cells aM 188 (0,0)):=heap_alloc_new _ _;have cC:=aZ bd bL;rw [<-qI] at cC;have aH:bW w (w1.alloc (.cells aM 188)):=aq.alloc aq.size _;have fy:=aq.size;have eY:=aH.trans ((ad.setCells (F:=λj=>j=w1.heap.size) rfl F 0 _).below (λj D=>by omega) aH.size);have aA:=dC (l:=s) bd (by rw [bL,kD]);rw [<-C.o] at aA;obtain⟨t,ed⟩:=cF ((w1.alloc (.cells aM 188)).setCells w1.heap.size 0 F);rw [<-ed] at aA eY;have fN:Src t (some (aD w1.heap.size 0)) 512 s:=by
  have:=aA.src (o:=0) (n:=512) (by omega);rwa [List.drop_zero,wl (by omega)] at this
 obtain⟨d,L9⟩:=eA eY fN;clear gV bd aH aq aA eY fN;go_wp2_with (refine wpList_store_mid rfl 188 _ _ rfl w1.heap.size 0 F.toArray rfl rfl ?h1 ?h2 bC ?_);case h1=>simpa using cC
 case h2=>simpa using aJ
 rw [<-ed];clear ed cC aJ bC;by_cases BJ:504<cM s\/2<s.getD 0 0
 .have lu:=te kD (BI (λh=>by omega));have GP:=yh lu;refine(ug w1.heap.size 0 s t L9.o g BJ).mono ?_;rintro e w' ⟨rfl,y⟩;have fJ:=y.symm;subst fJ;clear y lu BJ;go_wp2;go_ret2;exact⟨_,by rw [GP.o];rfl,by rw [GP.o];exact uf.nil _ _,d.o⟩
 .refine(BK w1.heap.size 0 s t L9.o g (by omega) (by omega)).mono ?_;rintro e A ⟨k,rfl,u,bH⟩;have RP:Src A (some (aD w1.heap.size k)) (cM s) (dG s):=by
   by_cases h0:cM s=0
   .exact⟨ki (by omega) kD,(λe=>by cases e),λx z i hi=>by omega⟩
   .rw [u (by omega)];exact kC (L9.o.later bH) (i:=7) (m:=cM s) (by omega)
  have nB:=yh (d.o.trans (bH.mono d.o.size));have fU:=ki (s:=s) (by omega) kD;have fX:uf A w.heap.size (.slice (some (aD w1.heap.size k)) (cM s) (cM s)) (dG s):=⟨some (aD w1.heap.size k),cM s,by rw [fU],by rw [fU];exact RP,by omega,λx z=>by cases z;exact fy⟩;have abm:=yh fX;clear RP fX u bH fU;by_cases a:bc (s.getD 0 0) (dG s)=s
  .have q:=BH kD (I0 (by omega) (by omega) a);have f:=yh q;rw [decide_eq_true a];clear a q;go_wp2;go_ret2;exact⟨_,by rw [f.o];rfl,by rw [f.o];exact abm.o,nB.o⟩
  .have q:=te kD (BI (λh=>a h.2.2));have f:=yh q;rw [decide_eq_false a];clear a q;go_wp2;go_ret2;exact⟨_,by rw [f.o];rfl,by rw [f.o];exact uf.nil _ _,nB.o⟩
def xL (a:Option Addr) (n c:Nat) (s:List Int) (w:World) (f:Src w a n s) (g:Bytes s):
  Calls prog 188 #[.slice a n c] w λe w'=>∃v,e= .returned (.tuple #[v,iV (((bZ s).2:Nat):Int)])/\uf w' w.heap.size v (bZ s).1/\bW w w':=by
 by_cases d:n=512
 .subst d;obtain⟨b,o,rfl⟩:=is f (by omega);exact I2 b o c s w f g
 .refine(I1 a n c w d).mono ?_;rintro e w' ⟨rfl,wL⟩;rw [Ey (by rw [f.1];exact d)];exact⟨_,rfl,uf.nil _ _,wL⟩
def ba (l:List Int):List Int:=if l.length=512 then l else zs 512
def aE (l:List Int):(ba l).length=512:=by unfold ba;split;assumption;exact bN 512
def fb (h:l.length=512):ba l=l:=by unfold ba;rw [aN h]
def qP (a:Option Addr) (n c:Nat) (l:List Int) (w:World) (d:Src w a n l):
  Calls prog 181 #[.slice a n c] w λe w'=>e= .returned (.tuple #[.agg (bs (ba l)).toArray, .bool (decide (n=512))])/\bW w w':=by
 by_cases f:n=512
 .subst f;cases a with
  |none=>have:=d.2.1 rfl;omega
  |some x=>
   obtain⟨b,o,rfl,_⟩:=d.spot (by omega);rw [fb d.1];exact ll b o c l w d
 .have e:ba l=zs 512:=by unfold ba;rw [aB (by rw [d.1];exact f)]
  rw [e,decide_eq_false f];exact nR a n c w f
def bM:Array Value:=(bs (zs 1024)).toArray
def BM:(prog.info? 190).map (λi=>(i.zero,i.size))=some (some (.agg bM),1024):=by kernel_rfl
def jh (w:World):(zeroValue 190).run prog w= .ok (.agg bM) w:=by
 obtain⟨i,hi,a⟩:=Option.map_eq_some_iff.1 BM;simp only [Prod.mk.injEq] at a;simp [zeroValue,typeInfo,hi,a.1]
def nS:(prog.info? 190).map (·.size)=some 1024:=by
 obtain⟨i,hi,a⟩:=Option.map_eq_some_iff.1 BM;simp only [Prod.mk.injEq] at a;rw [hi,<-a.2];rfl
def b9:bM.size=1024:=by unfold bM;simp only [List.size_toArray,bs,ju,bN]
def yZ:∀(c:List Value) (k b:Nat) (a:Array Value),b+k+c.length<=a.size->
    ((c.zipIdx k).foldl (λcs (x:Value×Nat)=>cs.setIfInBounds (b+x.2) x.1) a).toList=a.toList.take (b+k) ++ c ++ a.toList.drop (b+k+c.length)
 | [],k,b,a,h=>by simp
 |v :: r,k,b,a,h=>by
  have d:b+k<a.toList.length:=by simp at h⊢;omega
  rw [List.zipIdx_cons,List.foldl_cons,yZ r (k+1) b _ (by simp at h⊢;omega)];simp only [Array.toList_setIfInBounds];rw [show b+(k+1)=b+k+1 by omega,List.take_set,List.drop_set];rw [aN (by omega),List.take_succ_eq_append_getElem d,List.set_append_right _ _ (by simp;omega)];have:(b+k)-(a.toList.take (b+k)).length=0:=by simp;omega
  rw [this,jG];simp only [List.length_cons,GC,List.cons_append,List.nil_append];congr 4;omega
def wi (F a:Array Value) (b:Nat) (h:b+F.size<=a.size):
    (F.zipIdx.foldl (λcs (x:Value×Nat)=>cs.setIfInBounds (b+x.2) x.1) a).toList=a.toList.take b ++ F.toList ++ a.toList.drop (b+F.size):=by
 rw [<-Array.foldl_toList,Array.toList_zipIdx];have:=yZ F.toList 0 b a (by simpa using h);simpa using this
def Ez (F G:Array Value) (a:F.size=512) (d:G.size=512) (w:World):
    (Instr.build 190 #[(0, .agg F),(1, .agg G)]).run prog w= .ok (.agg (F ++ G)) w:=by
 obtain⟨i,hi,k⟩:=Option.map_eq_some_iff.1 zG;have l:=b9;have c:=wi F bM (0*512) (by omega);have s1:(F.zipIdx.foldl (λcs (x:Value×Nat)=>cs.setIfInBounds (0*512+x.2) x.1) bM).size=1024:=by
  rw [<-Array.length_toList,c];simp;omega
 have j:=wi G (F.zipIdx.foldl (λcs (x:Value×Nat)=>cs.setIfInBounds (0*512+x.2) x.1) bM) (1*512) (by omega);have b:Instr.fill (λi=>some (i*512,512)) bM [(0, .agg F),(1, .agg G)]=some (F ++ G):=by
  have e:(Value.agg F).cells=F:=rfl;have f:(Value.agg G).cells=G:=rfl;simp only [Instr.fill,e,f,a,d,l];rw [aB (by simp),aB (by simp only [ne_eq,not_true,decide_false,Bool.false_or,decide_eq_true_eq];omega)];refine congrArg some ?_;apply Array.ext';rw [j,c];have uh:F.toList.length=512:=by simpa using a
  simp only [Nat.zero_mul,List.take_zero,List.nil_append,Nat.zero_add,Nat.one_mul,a,d];rw [List.take_left' uh,List.drop_eq_nil_of_le (by simp;omega)];simp
 have g:(Value.agg bM).cells=bM:=rfl;simp only [Instr.build,Sem.run_bind,jh,Result.andThen_ok,run_underlying underlying190,g];have fy:(sizeOf 188).run prog w= .ok 512 w:=by simp [sizeOf,typeInfo,hi,k]
 rw [fy,Result.andThen_ok,b];rfl
def mC {F:List Value} (h:F.length=512):(prog.info? 188).map (·.size)=some F.length:=by rw [zG,h]
def lw {b:Array Oper} {rest:List Oper} {c:Oper} {a:Act} {Q:Exit->Act->World->Prop} (A3:c.guard=none) (x y:Operand) (k:c.op= .build 190 #[(0,x),(1,y)])
    (F G P:Array Value) (l:a.eval x= .agg F) (m:a.eval y= .agg G) (d:F.size=512) (f:G.size=512) (j:P=F ++ G)
    (h:wpList prog b Q rest (a.put c.dst (.agg P)) w):wpList prog b Q (c :: rest) a w:=
 wpList_plain A3 λK g=>by
  subst j;unfold Oper.wp execOp;simp only [k];have e:(#[(0,x),(1,y)]:Array (Nat×Operand)).map (λ(i,o)=>(i,a.eval o))= #[(0, .agg F),(1, .agg G)]:=by simp [l,m]
  rw [e,Sem.run_bind,(Ez F G d f w)];exact g _ _ h
def EA (s u:Bool) (F G:List Value) (k:F.length=512) (l:G.length=512) (ZS:∀v∈F,v.oneCell'=true) (ZT:∀v∈G,v.oneCell'=true) (x y:Value) (w:World)
    (kZ:∀w':World,bW w w'->Calls prog 181 #[x] w' λe zn=>e= .returned (.tuple #[.agg F.toArray, .bool s])/\bW w' zn)
    (DY:∀w':World,bW w w'->Calls prog 181 #[y] w' λe zn=>e= .returned (.tuple #[.agg G.toArray, .bool u])/\bW w' zn):
  Calls prog 155 #[x,y] w λe w'=>e= .returned (.tuple #[.agg (F.toArray ++ G.toArray), .bool (s && u)])/\bW w w':=by
 cases s
 .have z:=gN;have d:F.toArray.size=512:=by simpa using k
  have f:G.toArray.size=512:=by simpa using l
  have pS:=mC k;have pT:=mC l;have uS:(prog.info? 190).map (·.size)=some (F.toArray ++ G.toArray).size:=by rw [nS];simp;omega
  have Ma:=all_oneCell_toArray ZS;have Mb:=all_oneCell_toArray ZT;have BN:(F.toArray ++ G.toArray).all (·.oneCell')=true:=by
   have:=all_oneCell_toArray (cs:=F ++ G) (λv g=>(List.mem_append.1 g).elim (ZS v) (ZT v));simpa using this
  have aH:bW w (w.alloc (.cells bM 190)):=(cW _ w).alloc (di _) _;have p:=kZ _ aH;have ew:=yh aH;have BO:(w.alloc (.cells bM 190)).heap[w.heap.size]? =some (.cells bM 190 (0,0)):=heap_alloc_new _ _;obtain⟨BP,WC⟩:=eA BO DY;have bd:w.heap.size<(w.alloc (.cells bM 190)).heap.size:=by simp
  clear aH kZ DY BO;go_in;go_wp2_with fail;refine ef p λw1 aq=>?_;have eY:=ew.o.trans (aq.mono ew.o.size);have ji:=(aq.block w.heap.size bd).trans BP.o;have eR:=eY.size;have jx:=wu bd aq.size;have oI:(w1.alloc (.cells aM 188)).heap[w1.heap.size]? =some (.cells aM 188 (0,0)):=heap_alloc_new _ _;have cC:=aZ oI bL;rw [<-k] at cC;have gP:bW w (w1.alloc (.cells aM 188)):=eY.alloc eR _;have mu:=gP.trans ((ad.setCells (F:=λj=>j=w1.heap.size) rfl F 0 _).below (λj n=>by omega) gP.size);have Tk:=World.rangeAt_setCells_same (w1.alloc (.cells aM 188)) w1.heap.size 0 F cC;have uT:((w1.alloc (.cells aM 188)).setCells w1.heap.size 0 F).heap[w.heap.size]? =some (.cells bM 190 (0,0)):=
     ((ad.setCells (F:=λj=>j=w1.heap.size) rfl F 0 _).block w.heap.size (by simp;omega) (by omega)).trans ((heap_alloc_old w1 _ jx).trans ji)
  have zm:((w1.alloc (.cells aM 188)).setCells w1.heap.size 0 F).heap.size=w1.heap.size+1:=by rw [lK];simp
  obtain⟨r,ed⟩:=cF ((w1.alloc (.cells aM 188)).setCells w1.heap.size 0 F);rw [<-ed] at mu Tk uT zm;obtain⟨q,oZ,mB,WD,BQ⟩:=gB (WC.o r mu) (yh ed) (yh mu) (yh Tk) (yh uT);clear p aq eY ji oI gP mu Tk uT ed WC ew BP;go_wp2_with (refine wpList_store_mid rfl 188 _ _ rfl w1.heap.size 0 F.toArray rfl rfl ?h1 ?h2 Ma ?_);case h1=>simpa using cC
  case h2=>simpa using pS
  rw [<-oZ.o];refine ef q λb bH=>?_;have ue:=mB.o.trans (bH.mono mB.o.size);have ta:=(bH.block w.heap.size (by omega)).trans BQ.o;have rS:=ue.size;have II:=bH.size;have P6:(b.alloc (.cells aM 188)).heap[b.heap.size]? =some (.cells aM 188 (0,0)):=heap_alloc_new _ _;have EB:=aZ P6 bL;rw [<-l] at EB;have rT:bW w (b.alloc (.cells aM 188)):=ue.alloc rS _;have sk:=rT.trans ((ad.setCells (F:=λj=>j=b.heap.size) rfl G 0 _).below (λj n=>by omega) rT.size);have Tl:=World.rangeAt_setCells_same (b.alloc (.cells aM 188)) b.heap.size 0 G EB;have EC:((b.alloc (.cells aM 188)).setCells b.heap.size 0 G).rangeAt w1.heap.size 0 F:=by
   intro j v g;rw [World.cell?_of_block (w:=r) (a:=⟨w1.heap.size,0+j,none⟩)]
   .exact(WD.o j v g)
   .exact((ad.setCells (F:=λj=>j=b.heap.size) rfl G 0 _).block w1.heap.size (by simp;omega) (by omega)).trans ((heap_alloc_old b _ (show w1.heap.size<b.heap.size by omega)).trans (bH.block w1.heap.size (by omega)))
  have pr:((b.alloc (.cells aM 188)).setCells b.heap.size 0 G).heap[w.heap.size]? =some (.cells bM 190 (0,0)):=
     ((ad.setCells (F:=λj=>j=b.heap.size) rfl G 0 _).block w.heap.size (by simp;omega) (by omega)).trans ((heap_alloc_old b _ (show w.heap.size<b.heap.size by omega)).trans ta)
  obtain⟨i,mD⟩:=cF ((b.alloc (.cells aM 188)).setCells b.heap.size 0 G);rw [<-mD] at sk Tl EC pr;have ED:i.there w.heap.size 0 (F.toArray ++ G.toArray).toList.length:=aZ pr (by rw [b9];simp;omega);have WE:=yh (World.rangeAt_setCells_same i w.heap.size 0 (F.toArray ++ G.toArray).toList ED);obtain⟨I3,P7⟩:=eA (sk.trans ((ad.setCells (F:=λj=>j=w.heap.size) rfl (F.toArray ++ G.toArray).toList 0 i).below (λj n=>by omega) sk.size)) mD;have qQ:(prog.info? 190).map (·.size)=some (F.toArray ++ G.toArray).toList.length:=by rw [nS];simp;omega
  obtain⟨P,c⟩:=cF (F.toArray ++ G.toArray);rw [<-c] at uS BN ED WE I3 qQ;have m:=yh c;clear q bH ue ta P6 rT sk pr mD c mB WD BQ oZ;go_wp2_with (first|refine lw rfl _ _ rfl F.toArray G.toArray P rfl rfl d f m.o ?_|refine wpList_store_mid rfl 188 _ _ rfl b.heap.size 0 G.toArray rfl rfl ?h1 ?h2 Mb ?_|(rw [<-P7.o];first|refine wpList_load_mid rfl 188 _ rfl w1.heap.size 0 rfl F _ EC underlying188 rfl pS ?_|refine wpList_load_mid rfl 188 _ rfl b.heap.size 0 rfl G _ Tl underlying188 rfl pT ?_)|refine wpList_load_mid rfl 188 _ rfl w1.heap.size 0 rfl F _ EC underlying188 rfl pS ?_|refine wpList_load_mid rfl 188 _ rfl b.heap.size 0 rfl G _ Tl underlying188 rfl pT ?_|refine wpList_store_mid rfl 190 _ _ rfl w.heap.size 0 P rfl rfl ?h3 ?h4 BN ?_);case h1=>simpa using EB
  case h2=>simpa using pT
  case h3=>simpa using ED
  case h4=>simpa using uS
  have t:P.toList.toArray=(F ++ G).toArray:=by rw [m.o];simp
  exact bodyPost_ret (results_cell_tmp (P:=prog) rfl _ _ w.heap.size P.toList _ _ rfl rfl WE.out underlying190 rfl qQ) rfl ⟨by rw [t];rfl,I3.out⟩
 .have z:=gN;have d:F.toArray.size=512:=by simpa using k
  have f:G.toArray.size=512:=by simpa using l
  have pS:=mC k;have pT:=mC l;have uS:(prog.info? 190).map (·.size)=some (F.toArray ++ G.toArray).size:=by rw [nS];simp;omega
  have Ma:=all_oneCell_toArray ZS;have Mb:=all_oneCell_toArray ZT;have BN:(F.toArray ++ G.toArray).all (·.oneCell')=true:=by
   have:=all_oneCell_toArray (cs:=F ++ G) (λv g=>(List.mem_append.1 g).elim (ZS v) (ZT v));simpa using this
  have aH:bW w (w.alloc (.cells bM 190)):=(cW _ w).alloc (di _) _;have p:=kZ _ aH;have ew:=yh aH;have BO:(w.alloc (.cells bM 190)).heap[w.heap.size]? =some (.cells bM 190 (0,0)):=heap_alloc_new _ _;obtain⟨BP,WC⟩:=eA BO DY;have bd:w.heap.size<(w.alloc (.cells bM 190)).heap.size:=by simp
  clear aH kZ DY BO;go_in;go_wp2_with fail;refine ef p λw1 aq=>?_;have eY:=ew.o.trans (aq.mono ew.o.size);have ji:=(aq.block w.heap.size bd).trans BP.o;have eR:=eY.size;have jx:=wu bd aq.size;have oI:(w1.alloc (.cells aM 188)).heap[w1.heap.size]? =some (.cells aM 188 (0,0)):=heap_alloc_new _ _;have cC:=aZ oI bL;rw [<-k] at cC;have gP:bW w (w1.alloc (.cells aM 188)):=eY.alloc eR _;have mu:=gP.trans ((ad.setCells (F:=λj=>j=w1.heap.size) rfl F 0 _).below (λj n=>by omega) gP.size);have Tk:=World.rangeAt_setCells_same (w1.alloc (.cells aM 188)) w1.heap.size 0 F cC;have uT:((w1.alloc (.cells aM 188)).setCells w1.heap.size 0 F).heap[w.heap.size]? =some (.cells bM 190 (0,0)):=
     ((ad.setCells (F:=λj=>j=w1.heap.size) rfl F 0 _).block w.heap.size (by simp;omega) (by omega)).trans ((heap_alloc_old w1 _ jx).trans ji)
  have zm:((w1.alloc (.cells aM 188)).setCells w1.heap.size 0 F).heap.size=w1.heap.size+1:=by rw [lK];simp
  obtain⟨r,ed⟩:=cF ((w1.alloc (.cells aM 188)).setCells w1.heap.size 0 F);rw [<-ed] at mu Tk uT zm;obtain⟨q,oZ,mB,WD,BQ⟩:=gB (WC.o r mu) (yh ed) (yh mu) (yh Tk) (yh uT);clear p aq eY ji oI gP mu Tk uT ed WC ew BP;go_wp2_with (refine wpList_store_mid rfl 188 _ _ rfl w1.heap.size 0 F.toArray rfl rfl ?h1 ?h2 Ma ?_);case h1=>simpa using cC
  case h2=>simpa using pS
  rw [<-oZ.o];refine ef q λb bH=>?_;have ue:=mB.o.trans (bH.mono mB.o.size);have ta:=(bH.block w.heap.size (by omega)).trans BQ.o;have rS:=ue.size;have II:=bH.size;have P6:(b.alloc (.cells aM 188)).heap[b.heap.size]? =some (.cells aM 188 (0,0)):=heap_alloc_new _ _;have EB:=aZ P6 bL;rw [<-l] at EB;have rT:bW w (b.alloc (.cells aM 188)):=ue.alloc rS _;have sk:=rT.trans ((ad.setCells (F:=λj=>j=b.heap.size) rfl G 0 _).below (λj n=>by omega) rT.size);have Tl:=World.rangeAt_setCells_same (b.alloc (.cells aM 188)) b.heap.size 0 G EB;have EC:((b.alloc (.cells aM 188)).setCells b.heap.size 0 G).rangeAt w1.heap.size 0 F:=by
   intro j v g;rw [World.cell?_of_block (w:=r) (a:=⟨w1.heap.size,0+j,none⟩)]
   .exact(WD.o j v g)
   .exact((ad.setCells (F:=λj=>j=b.heap.size) rfl G 0 _).block w1.heap.size (by simp;omega) (by omega)).trans ((heap_alloc_old b _ (show w1.heap.size<b.heap.size by omega)).trans (bH.block w1.heap.size (by omega)))
  have pr:((b.alloc (.cells aM 188)).setCells b.heap.size 0 G).heap[w.heap.size]? =some (.cells bM 190 (0,0)):=
     ((ad.setCells (F:=λj=>j=b.heap.size) rfl G 0 _).block w.heap.size (by simp;omega) (by omega)).trans ((heap_alloc_old b _ (show w.heap.size<b.heap.size by omega)).trans ta)
  obtain⟨i,mD⟩:=cF ((b.alloc (.cells aM 188)).setCells b.heap.size 0 G);rw [<-mD] at sk Tl EC pr;have ED:i.there w.heap.size 0 (F.toArray ++ G.toArray).toList.length:=aZ pr (by rw [b9];simp;omega);have WE:=yh (World.rangeAt_setCells_same i w.heap.size 0 (F.toArray ++ G.toArray).toList ED);obtain⟨I3,P7⟩:=eA (sk.trans ((ad.setCells (F:=λj=>j=w.heap.size) rfl (F.toArray ++ G.toArray).toList 0 i).below (λj n=>by omega) sk.size)) mD;have qQ:(prog.info? 190).map (·.size)=some (F.toArray ++ G.toArray).toList.length:=by rw [nS];simp;omega
  obtain⟨P,c⟩:=cF (F.toArray ++ G.toArray);rw [<-c] at uS BN ED WE I3 qQ;have m:=yh c;clear q bH ue ta P6 rT sk pr mD c mB WD BQ oZ;go_wp2_with (first|refine lw rfl _ _ rfl F.toArray G.toArray P rfl rfl d f m.o ?_|refine wpList_store_mid rfl 188 _ _ rfl b.heap.size 0 G.toArray rfl rfl ?h1 ?h2 Mb ?_|(rw [<-P7.o];first|refine wpList_load_mid rfl 188 _ rfl w1.heap.size 0 rfl F _ EC underlying188 rfl pS ?_|refine wpList_load_mid rfl 188 _ rfl b.heap.size 0 rfl G _ Tl underlying188 rfl pT ?_)|refine wpList_load_mid rfl 188 _ rfl w1.heap.size 0 rfl F _ EC underlying188 rfl pS ?_|refine wpList_load_mid rfl 188 _ rfl b.heap.size 0 rfl G _ Tl underlying188 rfl pT ?_|refine wpList_store_mid rfl 190 _ _ rfl w.heap.size 0 P rfl rfl ?h3 ?h4 BN ?_);case h1=>simpa using EB
  case h2=>simpa using pT
  case h3=>simpa using ED
  case h4=>simpa using uS
  have t:P.toList.toArray=(F ++ G).toArray:=by rw [m.o];simp
  exact bodyPost_ret (results_cell_tmp (P:=prog) rfl _ _ w.heap.size P.toList _ _ rfl rfl WE.out underlying190 rfl qQ) rfl ⟨by rw [t];rfl,I3.out⟩
def gY (a:Option Addr) (n c:Nat) (l:List Int) (a2:Option Addr) (m d:Nat) (r:List Int) (w:World) (f:Src w a n l) (dQ:Src w a2 m r):
  Calls prog 155 #[.slice a n c, .slice a2 m d] w λe w'=>e= .returned (.tuple #[.agg (bs (ba l ++ ba r)).toArray, .bool (decide (n=512) && decide (m=512))])/\bW w w':=by
 have h:=EA (decide (n=512)) (decide (m=512)) (bs (ba l)) (bs (ba r)) (by rw [bs,ju,aE]) (by rw [bs,ju,aE]) (bD _) (bD _) (.slice a n c) (.slice a2 m d) w
    (λw' b=>qP a n c l w' (f.later b)) (λw' b=>qP a2 m d r w' (dQ.later b))
 rw [List.append_toArray,<-iM] at h;exact h
def fQ (w:World) (g:Nat) (v:Value) (l:List Int):Prop:=∃a c,v= .slice a l.length c/\Src w a l.length l/\l.length<=c/\∀x,a=some x->x.block=g
def fQ.nil (w:World) (g:Nat):fQ w g (.slice none 0 0) []:=⟨none,0,rfl,⟨rfl,λ_=>rfl,λx a=>by cases a⟩,di _,λx a=>by cases a⟩
def fQ.later (h:fQ w g v l) (b:bW w w'):fQ w' g v l:=by
 obtain⟨a,c,rfl,e,d,f⟩:=h;exact⟨a,c,rfl,e.later b,d,f⟩
def fQ.Wx {B:Nat} (h:fQ w g v l) (d:B<=g):uf w B v l:=by
 obtain⟨a,c,rfl,f,b,i⟩:=h;exact⟨a,c,rfl,f,b,λx e=>by rw [i x e];exact d⟩
def gE {s:List Int} (h:fF s=none\/∃b,fF s=some b/\(b.length<8\/9223372036854775808<=le (b.take 8))):am s=(0, []):=by
 rcases h with h|⟨b,h,a⟩
 .simp [am,h]
 .simp only [am,h];rw [aB (by omega)]
def zQ {s b:List Int} (h:fF s=some b) (a:8<=b.length) (c:le (b.take 8)<9223372036854775808):am s=(le (b.take 8),b.drop 8):=by
 simp only [am,h];rw [aN ⟨a,c⟩]
def uU (g o:Nat) (s:List Int) (w:World) (c:Src w (some (aD g o)) 512 s) (q:Bytes s):
  Calls prog 182 #[.pointer (some (aD g o))] w λe w'=>∃v,e= .returned (.tuple #[iV (((am s).1:Nat):Int),v])/\fQ w' g v (am s).2/\bW w w':=by
 have kD:=c.1;go_in;go_wp2_with fail;by_cases BJ:504<cM s\/2<s.getD 0 0
 .have lu:am s=(0, []):=gE (.inl (by unfold fF;rw [aB (λh=>by omega)]));have GP:=yh lu;have b:=ug g o s w c q BJ;clear lu c;refine ef b λw' f=>?_;have fJ:=f.symm;subst fJ;clear f b;go_wp2;go_ret2;exact⟨_,by rw [GP.o];rfl,by rw [GP.o];exact fQ.nil _ _,cW _ _⟩
 .have b:=BK g o s w c q (by omega) (by omega);have fU:=ki (s:=s) (by omega) kD;have kj:Bytes (dG s):=(q.drop _).take _;by_cases a:bc (s.getD 0 0) (dG s)=s
  .have wn:fF s=some (dG s):=(by unfold fF;rw [aN ⟨by omega,by omega,a⟩]);rw [decide_eq_true a] at b;refine b.mono ?_;by_cases A:cM s<8
   .have lu:=gE (.inr ⟨_,wn, .inl (by omega)⟩);have GP:=yh lu;have n:(cM s:Int)<8:=(by omega);clear lu c wn a kj;generalize cM s=N at*;rintro e w1 ⟨k,rfl,_,aq⟩;have ew:=yh aq;clear aq b;go_wp2;go_ret2;exact⟨_,by rw [GP.o];rfl,by rw [GP.o];exact fQ.nil _ _,ew.o⟩
   .have n:¬(cM s:Int)<8:=(by omega);have RP:∀w1:World,bW w w1->Src w1 (some ⟨g,o+7,none⟩) (cM s) (dG s):=λw1 h=>kC (c.later h) (i:=7) (m:=cM s) (by omega);have d:((dG s).take 8).length=8:=(by rw [Iz];omega);have Tm:=Bv (kj.take 8) (by omega);have rR:=λw1 h=>by
     have r:=kC (RP w1 h) (i:=0) (m:=8) (by omega);rw [List.drop_zero] at r;exact sb g (o+7) 8 8 ((dG s).take 8) w1 (kj.take 8) d (by omega) (λi hi=>by have:=r.2.2 _ rfl i hi;rwa [aV,Nat.add_zero] at this)
    have P8:=yh rR;clear rR;obtain⟨M,j⟩:=cF (le ((dG s).take 8));rw [<-j] at Tm P8;rintro e w1 ⟨k,rfl,l,aq⟩;have Lu:=l (by omega);subst Lu;have ew:=yh aq;have t:=P8.o w1 aq;clear aq b P8 l;go_wp2_with fail;refine ef t λw' f=>?_;have fJ:=f.symm;subst fJ;clear f t;by_cases bn:9223372036854775807<M
    .have lu:=gE (.inr ⟨_,wn, .inr (by omega)⟩);have GP:=yh lu;have WF:9223372036854775807<(M:Int):=(by omega);clear lu c wn a kj j;generalize cM s=N at*;have y:(8:Int)<=(N:Int):=(by omega);go_wp2;go_ret2;exact⟨_,by rw [GP.o];rfl,by rw [GP.o];exact fQ.nil _ _,ew.o⟩
    .have lL:am s=(M,(dG s).drop 8):=(by rw [j];exact zQ wn (by omega) (by omega));have P9:=yh lL;have WF:¬9223372036854775807<(M:Int):=(by omega);have tf:((dG s).drop 8).length=cM s-8:=(by simp;omega);have WG:∀(w1:World) (k:Nat),bW w w1->(8<cM s->k=o+7+8)->fQ w1 g (.slice (some (aD g k)) (cM s-8) (cM s-8)) ((dG s).drop 8):=by
      intro w1 k h l;refine⟨some (aD g k),cM s-8,by rw [tf],?_,by omega,λx u=>by cases u;rfl⟩;rw [tf];by_cases p:8<cM s
      .rw [l p];have:=kC (RP w1 h) (i:=8) (m:=cM s-8) (by omega);rwa [wl (by omega)] at this
      .exact⟨by omega,(λe=>by cases e),λx u i hi=>by omega⟩
     have wO:=yh WG;clear lL c wn a kj j WG RP tf d fU;generalize cM s=N at*;have y:(8:Int)<=(N:Int):=(by omega);go_wp2;go_quiet (fail);by_cases p:N=8
     .subst p;go_wp2;go_ret2;exact⟨_,by rw [P9.o];rfl,by rw [P9.o];exact wO.o _ _ (below_drewN ew.o _) (λh=>by omega),below_drewN ew.o _⟩
     .have z:¬(N:Int)=8:=(by omega);go_wp2;go_ret2;exact⟨_,by rw [P9.o];rfl,by rw [P9.o];exact wO.o _ _ (below_drewN ew.o _) (λh=>by omega),below_drewN ew.o _⟩
  .have lu:=gE (.inl (by unfold fF;rw [aB (λh=>a h.2.2)]));have GP:=yh lu;rw [decide_eq_false a] at b;clear lu c a kj;generalize cM s=N at*;refine b.mono ?_;rintro e w1 ⟨k,rfl,_,aq⟩;have ew:=yh aq;clear aq b;go_wp2;go_ret2;exact⟨_,by rw [GP.o];rfl,by rw [GP.o];exact fQ.nil _ _,ew.o⟩
def mE {r:List Int} (a:l.length=512) (b:r.length=512):ai l r=if (am l).1=0/\(am r).1=0 then (0,0, [],30) else if (am l).1<(am r).1 then (1,(am r).1,(am r).2,0) else (0,(am l).1,(am l).2,0):=by
 unfold ai;rw [aB (by omega)]
def iY (s:List Int):(am s).1<=9223372036854775807:=by
 unfold am;split
 .simp
 .split
  .next h=>simp only;omega
  .simp
def EE (l r:List Int):Nat->Nat×Nat×List Int
 |0=>(0,0, [])
 |1=>if 0<(am l).1 then (0,(am l).1,(am l).2) else (0,0, [])
 |_+2=>if (if 0<(am l).1 then (0,(am l).1,(am l).2) else (0,0,([]:List Int))).2.1<(am r).1 then (1,(am r).1,(am r).2) else if 0<(am l).1 then (0,(am l).1,(am l).2) else (0,0, [])
def Qa {r:List Int} (c:l.length=512) (d:r.length=512):EE l r 2=((ai l r).1,(ai l r).2.1,(ai l r).2.2.1):=by
 rw [mE c d];unfold EE;by_cases b:0<(am l).1
 .simp only [aN b];rw [aB (show¬((am l).1=0/\(am r).1=0) by omega)];by_cases a:(am l).1<(am r).1
  .simp only [aN a]
  .simp only [aB a]
 .simp only [aB b];by_cases a:0<(am r).1
  .simp only [aN a];rw [aB (show¬((am l).1=0/\(am r).1=0) by omega),aN (show (am l).1<(am r).1 by omega)]
  .simp only [aB a];rw [aN (show (am l).1=0/\(am r).1=0 by omega)]
def fQ.agree (h:fQ w g v l) (f:w'.heap[g]? =w.heap[g]?):fQ w' g v l:=by
 obtain⟨a,c,rfl,b,j,d⟩:=h;refine⟨a,c,rfl,⟨b.1,b.2.1,λx e i hi=>?_⟩,j,d⟩;rw [World.cell?_of_block (w:=w) (by rw [jd,(d x e)];exact f)];exact b.2.2 x e i hi
def Tn {a b c x:Value} (h:w.heap[g]? =some (.cells #[a,b,c] T (0,0))):
    (((w.setCell ⟨g,0,none⟩ x).setCell ⟨g,1,none⟩ y).setCell ⟨g,2,none⟩ z).heap[g]? =some (.cells #[x,y,z] T (0,0)):=by
 rw [heap_setCell_same _ _ _ _ _ _ (heap_setCell_same _ _ _ _ _ _ (heap_setCell_same _ _ _ _ _ _ h))];rfl
def To {x:Value} (h:w.heap[g]? =some (.cells #[x,y,z] T (0,0))):w.rangeAt g 0 [x,y,z]:=by
 intro j v a;rw [Nat.zero_add];exact aa h (by simpa using a)
def EF:(prog.info? 194).map (·.size)=some 3:=by kernel_rfl
def EG (w:World) (g:Nat) (x y z:Value):ad (λj=>j=g) w (((w.setCell ⟨g,0,none⟩ x).setCell ⟨g,1,none⟩ y).setCell ⟨g,2,none⟩ z):=
   ((ad.setCell (F:=λj=>j=g) (p:=⟨g,0,none⟩) w rfl x).trans (ad.setCell (F:=λj=>j=g) (p:=⟨g,1,none⟩) _ rfl y) (λ_ h=> .inl h)).trans (ad.setCell (F:=λj=>j=g) (p:=⟨g,2,none⟩) _ rfl z) (λ_ h=> .inl h)
def Nw (w:World) (g:Nat) (l r:List Int) (k:Nat) (wr:World):Prop:=
 ∃v,wr.heap[w.heap.size+1]? =some (.cells #[.int .i64 (((EE l r k).1:Nat):Int), .int .i64 (((EE l r k).2.1:Nat):Int),v] 194 (0,0))/\fQ wr g v (EE l r k).2.2/\
    (∃x y z,wr.heap[w.heap.size]? =some (.cells #[x,y,z] 194 (0,0)))/\bW w wr
def mF (g:Nat) (l r:List Int) (w:World) (p:Src w (some (aD g 0)) 512 l) (dQ:Src w (some (aD g 512)) 512 r) (O:Bytes l) (Q:Bytes r):
  Calls prog 156 #[pQ g] w λe w'=>∃v,e= .returned (.agg #[iV (((ai l r).1:Nat):Int),iV (((ai l r).2.1:Nat):Int),v])/\fQ w' g v (ai l r).2.2.1/\bW w w':=by
 obtain⟨H,I⟩:=eA (λw' (C:bW w w')=>uU g 0 l w' (p.later C) O) (λw' (C:bW w w')=>uU g 512 r w' (dQ.later C) Q);have T:g<w.heap.size:=p.old _ rfl (by omega);have wO:=yh (Qa p.1 dQ.1);clear p dQ;go_in;go_wp2;go_loopw [8] (λi wr=>∃k:Nat,k<=2/\i=iV k/\Nw w g l r k wr) (λi _=>2-(intOf i).toNat);case atStart=>exact⟨0,iq _,rfl, .slice none 0 0,heap_alloc2_new _ _ _,fQ.nil _ _,⟨_,_,_,heap_alloc2_old _ _ _⟩,((cW _ w).alloc (di _) _).alloc (by simp) _⟩
 case round=>
  obtain⟨k,U,rfl,u⟩:=hrel;obtain rfl|rfl|rfl:k=0\/k=1\/k=2:=by omega
  .obtain⟨v,aA,fX,gX,pU⟩:=u;have d:=H.out wr pU;have c:=yh (aQ aA (aQ fX (aQ gX pU)));clear aA fX gX pU;generalize RQ:EE l r 0=S at*;go_wp2_with fail;refine d.mono ?_;rintro e w1 ⟨R,rfl,dD,aq⟩;obtain⟨a1,b,WH,lj⟩:=dD;subst WH;have dD:fQ w1 g _ _:=⟨a1,b,rfl,lj⟩;clear lj;obtain⟨aA,fX,⟨f,m,n,gX⟩,pU⟩:=c.o;have fG:=(aq.block _ (oF.1 aA).1).trans aA;have ji:=(aq.block _ (oF.1 gX).1).trans gX;have aH:=pU.trans (aq.mono pU.size);have uV:=fX.later aq;obtain⟨KU,kZ,DY,KV,Vn,IZ,K⟩:=wG (aL fG) (bY fG) (cJ fG) (ae fG 0) (ae fG 1) (ae fG 2) aH.size;by_cases h0:S.2.1<(am l).1
   .have Qb:((S.2.1:Nat):Int)<(((am l).1:Nat):Int):=(by omega);have a:EE l r 1=(0,(am l).1,(am l).2):=by
     rw [<-RQ] at h0;have h0:0<(am l).1:=h0;unfold EE;rw [aN h0]
    have dR:=EG w1 (w.heap.size+1) (iV 0) (iV (((am l).1:Nat):Int)) (.slice a1 (am l).2.length b);have Mc:Nw w g l r 1 (((w1.setCell ⟨w.heap.size+1,0,none⟩ (.int .i64 0)).setCell ⟨w.heap.size+1,1,none⟩ (.int .i64 (((am l).1:Nat):Int))).setCell ⟨w.heap.size+1,2,none⟩ (.slice a1 (am l).2.length b)):=by
     refine⟨_,by rw [a];exact(Tn (x:=iV 0) (y:=iV (((am l).1:Nat):Int)) (z:= .slice a1 (am l).2.length b) fG),by rw [a];exact dD.agree (dR.block g (by omega) (by omega)),⟨f,m,n,(dR.block _ (oF.1 ji).1 (by omega)).trans ji⟩,aH.trans (dR.below (λj J=>by omega) aH.size)⟩
    have Tp:=yh Mc;generalize (am l).1=A at*;generalize (am l).2.length=D at*;clear d c aA fX gX pU fG ji aH uV dR Mc dD aq a;go_wp2;go_roundw;case rel=>exact⟨1,by omega,by go_num,Tp.o⟩
    case measure=>simp [intOf]
   .have Qb:¬((S.2.1:Nat):Int)<(((am l).1:Nat):Int):=(by omega);have a:EE l r 1=S:=by
     rw [<-RQ] at h0⊢;have h0:¬0<(am l).1:=h0;unfold EE;rw [aB h0]
    have Mc:Nw w g l r 1 w1:=⟨v,by rw [a];exact fG,by rw [a];exact uV,⟨f,m,n,ji⟩,aH⟩;have Tp:=yh Mc;generalize (am l).1=A at*;generalize (am l).2.length=D at*;clear d c aA fX gX pU fG ji aH uV Mc dD aq a;go_wp2;go_roundw;case rel=>exact⟨1,by omega,by go_num,Tp.o⟩
    case measure=>simp [intOf]
  .obtain⟨v,aA,fX,gX,pU⟩:=u;have d:=I.out wr pU;have c:=yh (aQ aA (aQ fX (aQ gX pU)));clear aA fX gX pU;generalize RQ:EE l r 1=S at*;go_wp2_with fail;refine d.mono ?_;rintro e w1 ⟨R,rfl,dD,aq⟩;obtain⟨a1,b,WH,lj⟩:=dD;subst WH;have dD:fQ w1 g _ _:=⟨a1,b,rfl,lj⟩;clear lj;obtain⟨aA,fX,⟨f,m,n,gX⟩,pU⟩:=c.o;have fG:=(aq.block _ (oF.1 aA).1).trans aA;have ji:=(aq.block _ (oF.1 gX).1).trans gX;have aH:=pU.trans (aq.mono pU.size);have uV:=fX.later aq;obtain⟨KU,kZ,DY,KV,Vn,IZ,K⟩:=wG (aL fG) (bY fG) (cJ fG) (ae fG 0) (ae fG 1) (ae fG 2) aH.size;by_cases h0:S.2.1<(am r).1
   .have Qb:((S.2.1:Nat):Int)<(((am r).1:Nat):Int):=(by omega);have a:EE l r 2=(1,(am r).1,(am r).2):=by
     rw [<-RQ] at h0;unfold EE at h0⊢;rw [aN h0]
    have dR:=EG w1 (w.heap.size+1) (iV 1) (iV (((am r).1:Nat):Int)) (.slice a1 (am r).2.length b);have Mc:Nw w g l r 2 (((w1.setCell ⟨w.heap.size+1,0,none⟩ (.int .i64 1)).setCell ⟨w.heap.size+1,1,none⟩ (.int .i64 (((am r).1:Nat):Int))).setCell ⟨w.heap.size+1,2,none⟩ (.slice a1 (am r).2.length b)):=by
     refine⟨_,by rw [a];exact(Tn (x:=iV 1) (y:=iV (((am r).1:Nat):Int)) (z:= .slice a1 (am r).2.length b) fG),by rw [a];exact dD.agree (dR.block g (by omega) (by omega)),⟨f,m,n,(dR.block _ (oF.1 ji).1 (by omega)).trans ji⟩,aH.trans (dR.below (λj J=>by omega) aH.size)⟩
    have Tp:=yh Mc;generalize (am r).1=A at*;generalize (am r).2.length=D at*;clear d c aA fX gX pU fG ji aH uV dR Mc dD aq a;go_wp2;go_roundw;case rel=>exact⟨2,by omega,by go_num,Tp.o⟩
    case measure=>simp [intOf]
   .have Qb:¬((S.2.1:Nat):Int)<(((am r).1:Nat):Int):=(by omega);have a:EE l r 2=S:=by
     rw [<-RQ] at h0⊢;unfold EE at h0⊢;rw [aB h0]
    have Mc:Nw w g l r 2 w1:=⟨v,by rw [a];exact fG,by rw [a];exact uV,⟨f,m,n,ji⟩,aH⟩;have Tp:=yh Mc;generalize (am r).1=A at*;generalize (am r).2.length=D at*;clear d c aA fX gX pU fG ji aH uV Mc dD aq a;go_wp2;go_roundw;case rel=>exact⟨2,by omega,by go_num,Tp.o⟩
    case measure=>simp [intOf]
  .obtain⟨v,aA,fX,⟨f,m,n,gX⟩,pU⟩:=u;rw [wO.o] at aA fX;obtain⟨a1,b,WH,lj⟩:=fX;subst WH;have fX:fQ wr g _ _:=⟨a1,b,rfl,lj⟩;clear lj
   dsimp only at aA fX
   generalize N:(ai l r).2.2.1.length=D at*;obtain⟨KU,kZ,DY,uM,kE,dS,KV,Vn,IZ,jf,dR,K⟩:=Lj (aL aA) (bY aA) (cJ aA) (aL gX) (bY gX) (cJ gX) (ae gX 0) (ae gX 1) (ae gX 2) (Tn (x:=iV (((ai l r).1:Nat):Int)) (y:=iV (((ai l r).2.1:Nat):Int)) (z:= .slice a1 D b) gX) (EG wr w.heap.size (iV (((ai l r).1:Nat):Int)) (iV (((ai l r).2.1:Nat):Int)) (.slice a1 D b)) pU.size;have ir:=fX.agree (dR.block g (by omega) (by omega));have eY:=pU.trans (dR.below (λj J=>by omega) pU.size);have q:=yh (aQ ir eY);have E:=aL jf;have F:=bY jf;have G:=cJ jf;clear aA fX gX pU dR ir eY wO H I;have rQ:=yh (To jf);obtain⟨A,s⟩:=cF ((ai l r).1);obtain⟨B,t⟩:=cF ((ai l r).2.1);rw [<-s] at KU jf q E F G rQ;rw [<-t] at kZ jf q E F G rQ;obtain⟨L,M⟩:=eA s t;clear s t N jf;go_wp2;exact bodyPost_ret (cN (P:=prog) rfl _ _ w.heap.size _ _ rfl rQ.out underlying194 rfl EF) rfl ⟨.slice a1 D b,by rw [<-L.o,<-M.o],q.o⟩
def mG {P:Program} {b:Func} {p q r s:Tmp} (h:b.results= #[.tmp p, .tmp q, .tmp r, .tmp s]) (a:Array Value) (w:World):
    (results b a).run P w= .ok (.tuple #[a.getD p undef,a.getD q undef,a.getD r undef,a.getD s undef]) w:=by
 simp [results,h]
def iN {r:List Int} (h:l.length=512) (a:r.length=512):(prog.info? 190).map (·.size)=some (bs (l ++ r)).length:=by
 rw [nS,bs,ju,gT,h,a]
def oJ {r:List Int} (h:gA w T g (l ++ r)) (c:l.length=512) (d:r.length=512):Src w (some (aD g 0)) 512 l/\Src w (some (aD g 512)) 512 r:=by
 have qI:(l ++ r).length=1024:=by simp;omega
 have a:=h.src (o:=0) (n:=512) (by omega);have b:=h.src (o:=512) (n:=512) (by omega);rw [List.drop_zero,List.take_left' c] at a;rw [List.drop_left' c,wl (by omega)] at b;exact⟨a,b⟩
def BR (a:Option Addr) (n c:Nat) (l:List Int) (a2:Option Addr) (m d:Nat) (r:List Int) (w:World) (y:Src w a n l) (dQ:Src w a2 m r) (M:Bytes l) (N:Bytes r):
  Calls prog 165 #[.slice a n c, .slice a2 m d] w λe w'=>∃v,e= .returned (.tuple #[iV (((ai l r).1:Nat):Int),iV (((ai l r).2.1:Nat):Int),v,iV (((ai l r).2.2.2:Nat):Int)])/\uf w' w.heap.size v (ai l r).2.2.1/\bW w w':=by
 obtain⟨S,h1,zR,GQ,aJ,bC⟩:=rY jh (gY a n c l a2 m d r w y dQ) y.1 dQ.1 (iN (aE l) (aE r)) (all_oneCell_toArray (bD (ba l ++ ba r)));have uh:(bs (ba l ++ ba r)).length=1024:=by rw [bs,ju,gT,aE,aE]
 obtain⟨F,x⟩:=cF (bs (ba l ++ ba r));rw [<-x] at h1 aJ bC uh;have L:=yh x;clear x y dQ;go_in;go_wp2_with fail;refine ef h1 λw1 aq=>?_;have bd:(w1.alloc (.cells bM 190)).heap[w1.heap.size]? =some (.cells bM 190 (0,0)):=heap_alloc_new _ _;have cC:=aZ bd b9;rw [<-uh] at cC;have aH:bW w (w1.alloc (.cells bM 190)):=aq.alloc aq.size _;have fy:=aq.size;have eY:=aH.trans ((ad.setCells (F:=λj=>j=w1.heap.size) rfl F 0 _).below (λj R=>by omega) aH.size);have aA:=dC (l:=ba l ++ ba r) bd (by rw [b9,gT,aE,aE]);rw [<-L.o] at aA;obtain⟨Q,ed⟩:=cF ((w1.alloc (.cells bM 190)).setCells w1.heap.size 0 F);rw [<-ed] at eY aA;obtain⟨b,pV,oZ⟩:=pJ eY aA ed;clear h1 bd aH aq eY aA ed;by_cases A5:n=512/\m=512
 .obtain⟨rfl,rfl⟩:=A5;rw [(fb zR),(fb GQ)] at pV;obtain⟨s1,s2⟩:=oJ pV.o zR GQ;have G:=mF w1.heap.size l r Q s1 s2 M N;have GR:=mE zR GQ;have PT:(ai l r).2.1<=9223372036854775807:=by
   have T:=iY l;have U:=iY r;rw [GR];split
   .simp
   .split <;> simp only <;> omega
  have WI:((ai l r).2.1=0/\(ai l r).1=0/\(ai l r).2.2.1= []/\(ai l r).2.2.2=30)\/(0<(ai l r).2.1/\(ai l r).2.2.2=0):=by
   rw [GR];by_cases q:(am l).1=0/\(am r).1=0
   .rw [aN q];exact .inl ⟨rfl,rfl,rfl,rfl⟩
   .rw [aB q];by_cases H:(am l).1<(am r).1
    .rw [aN H];exact .inr ⟨by simp only;omega,rfl⟩
    .rw [aB H];exact .inr ⟨by simp only;omega,rfl⟩
  clear GR pV s1 s2;go_wp2_with (refine wpList_store_mid rfl 190 _ _ rfl w1.heap.size 0 F.toArray rfl rfl ?h1 ?h2 bC ?_);case h1=>simpa using cC
  case h2=>simpa using aJ
  rw [<-oZ.o];refine G.mono ?_;rintro e k ⟨v,rfl,fX,bH⟩;obtain⟨I,J,O,C⟩:=fX;subst O;have fX:fQ k w1.heap.size _ _:=⟨I,J,rfl,C⟩;have gP:=b.o.trans (bH.mono b.o.size);have p:=yh (λw' (h:bW k w')=>aQ ((fX.Wx fy).later h) (gP.trans (h.mono gP.size)));obtain⟨A,s⟩:=cF ((ai l r).1);obtain⟨B,g⟩:=cF ((ai l r).2.1);obtain⟨D,i⟩:=cF ((ai l r).2.2.1);obtain⟨E,u⟩:=cF ((ai l r).2.2.2);rw [<-s,<-g,<-i,<-u] at WI;rw [<-g] at PT;rw [<-i] at p;rw [<-s,<-g,<-i];have f:=yh (aQ s (aQ g (aQ i u)));clear G C fX bH oZ cC aJ bC gP b s g i u;rcases WI with ⟨rfl,rfl,rfl,rfl⟩|⟨fD,rfl⟩
  .go_wp2;exact bodyPost_ret (mG (P:=prog) rfl _ _) rfl ⟨.slice none 0 0,by rw [<-f.o.1,<-f.o.2.1,<-f.o.2.2.2];rfl,by rw [<-f.o.2.2.1];exact uf.nil _ _,(p.o _ ((cW _ k).alloc (di _) _)).2⟩
  .have V9:((B:Int) == 0)=false:=(by rw [oE];omega);generalize t:D.length=K at*;clear t;go_wp2;go_quiet (fail);go_wp2;exact bodyPost_ret (mG (P:=prog) rfl _ _) rfl ⟨.slice I K J,by rw [<-f.o.1,<-f.o.2.1,<-f.o.2.2.2];rfl,by rw [<-f.o.2.2.1];exact(p.o _ (below_drewN ((cW _ k).alloc (di _) _) _)).1,(p.o _ (below_drewN ((cW _ k).alloc (di _) _) _)).2⟩
 .have z:ai l r=(0,0, [],2):=by unfold ai;rw [aN (by omega)]
  have kj:(decide (n=512) && decide (m=512))=false:=by
   rw [<-Bool.decide_and,decide_eq_false A5]
  have ZU:=yh z;rw [kj];clear z kj A5;go_wp2_with (refine wpList_store_mid rfl 190 _ _ rfl w1.heap.size 0 F.toArray rfl rfl ?h1 ?h2 bC ?_);case h1=>simpa using cC
  case h2=>simpa using aJ
  rw [<-oZ.o];exact bodyPost_ret (mG (P:=prog) rfl _ _) rfl ⟨.slice none 0 0,by rw [ZU.o];rfl,by rw [ZU.o];exact uf.nil _ _,b.o⟩
def fY (w:World) {b:Array Oper} {rest:List Oper} {o:Oper} {a:Act} {Q:Exit->Act->World->Prop}
    (p:o.guard=none) (l c:Operand) (wn:o.op=Op.makeSlice 44 l c) (C:Int) (m n:Nat) (q:a.eval l=iV (m:Int)) (k:a.eval c=iV C) (g:C=(n:Int)) (ZV:m<=n) (r:n<=140737488355328)
    (j:∀w',gA w' 5 w.heap.size (zs n)->bW w w'->wpList prog b Q rest (a.put o.dst (.slice (some (aD w.heap.size 0)) m n)) w'):
  wpList prog b Q (o :: rest) a w:=by
 refine wpList_plain p λK Md=>?_;obtain⟨i,hi,iX,eR,eE⟩:=info_parts gU;subst g;have f:=run_make (P:=prog) w 44 5 i (.int .u8 0) underlying44 hi iX .i64 .i64 (m:Int) (n:Int) (by omega) (by omega) (by rw [eE];omega) (by omega);simp only [t7,eR,Nat.mul_one] at f;unfold Oper.wp;simp [execOp,wn,q,k,f,Result.andThen];refine Md _ _ (j _ ?_ ?_)
 .have d:=heap_alloc_new w (.cells (madeCells (Value.int .u8 0).cells n) 5);have e:madeCells (Value.int .u8 0).cells n=(bs (zs n)).toArray:=by
   apply Array.ext';have:(Value.int .u8 0).cells= #[Value.int .u8 0]:=rfl;rw [this,toList_madeCells_one];simp [bs,zs]
  rw [e] at d;unfold gA;rw [<-d];simp [e]
 .exact(cW _ w).alloc (di _) _
def abp (n:Nat):br 8 n=bj n:=by
 rw [xH];simp only [br,Nat.div_div_eq_div_mul]
def GS {B:Nat} {p q:List Int} (h:gA w 5 g (p ++ q)) (a:B<=g) (c:n=(p ++ q).length) (b:n<=maxLen):Own w B (.slice (some (aD g 0)) p.length n) p:=by
 subst c;refine⟨by simp [bs], .inr ⟨g,(p ++ q).length,_,rfl,a,h,by simp,b,by simp [bs],?_⟩⟩;rw [iM];simp [bs]
def nT (N:Nat) (a:Option Addr) (n c:Nat) (l:List Int) (w:World) (r:N<9223372036854775808) (b:Src w a n l) (s:n<=496) (ly:a=none->c=0):
  Calls prog 160 #[iV (N:Int), .slice a n c] w λe w'=>∃v,e= .returned v/\Own w' w.heap.size v (bj N ++ l)/\bW w w':=by
 obtain⟨i,hi,iX,eR,eE⟩:=info_parts gU;have f:=b.1;go_in;go_wp2_with (at_make;refine fY _ rfl _ _ rfl _ 8 (8+n) rfl rfl ?c1 ?c2 ?c3 ?_);case c1=>omega
 case c2=>omega
 case c3=>omega
 intro w1 aA aq;have dD:=zE w.heap.size 0 8 (8+n) N 5 (zs (8+n)) w1 aA (by omega) (by rw [bN];omega);have p:put (zs (8+n)) 0 (br 8 N)=bj N ++ zs n:=by
  rw [abp,put,zF,dN];simp only [List.take_zero,List.nil_append,Nat.zero_add];rw [List.drop_left' (bN 8)]
 rw [p] at dD;go_wp2_with fail;refine zg dD λk GT aK agG=>?_;have eY:=aq.trans (aK.below (λj d=>by omega) aq.size);have bB:=GS GT (di _) (by rw [gT,dN,bN]) (by unfold maxLen;omega);rw [dN] at bB;have aU:k.ownsRow w.heap.size 5 1 (.slice (some (aD w.heap.size 0)) 8 (8+n)) 8 (bs (bj N)):=by
  have:=bB;unfold Own at this;rwa [dN] at this
 have g:=eY.size;cases a with
 |none=>
  have Me:=b.2.1 rfl;subst Me;have oY:=Ef f;subst oY;have KU:=ly rfl;subst KU;go_wp2_with (at_builtin;refine wpList_append_own_none rfl _ _ 44 rfl w.heap.size 5 i 1 underlying44 hi _ 8 (bs (bj N)) rfl aU rfl ?_);go_ret;exact⟨_,rfl,by rw [List.append_nil];exact bB,eY⟩
 |some x=>
  have EH:=(λj u (d:(bs l)[j]? =some u)=>show k.cell? (x.add j)=some u by
   obtain⟨ZM,rfl⟩:=eG d;exact cell_later eY (b.2.2 _ rfl j (by omega)))
  have qI:(bs l).length=n:=by rw [bs,ju,f]
  go_wp2_with (at_builtin;refine wpList_append_own _ rfl _ _ 44 rfl w.heap.size 5 i (.int .u8 0) 1 1 underlying44 hi iX eR eE rfl (by decide) _ 8 (bs (bj N)) rfl aU x n c (bs l) rfl ?n0 EH ?n2 ?n3 ?n4 ?n5 ?_);case n0=>omega
  case n2=>exact bD _
  case n3=>unfold maxLen;omega
  case n4=>omega
  case n5=>exact g
  intro t y cK jy _;rw [<-iM] at cK;have o:=(zC (m:=bj N ++ l) cK (by rw [gT,dN];omega) rfl);go_wp2;go_ret;exact⟨_,rfl,o,eY.grown jy g (λq e=>(aU.lt q e).1)⟩
def xM (s n:Nat) (v:Value) (w:World) (c:s<=1):
  Calls prog 157 #[.agg #[iV (s:Int),iV (n:Int),v]] w λe w'=>e= .returned (iV ((if n=0 then 0 else 1-s:Nat):Int))/\bW w w':=by
 have a:=((cW w.heap.size w).alloc (di _) (.cells #[.int .i64 (s:Int), .int .i64 (n:Int),v] 194));go_in;by_cases h:n=0
 .subst h;go_wp2;go_ret;exact⟨rfl,a⟩
 .have b:((n:Int) == 0)=false:=by rw [oE];omega
  have e:((if n=0 then 0 else 1-s:Nat):Int)=1-(s:Int):=by rw [aB h];omega
  rw [e];go_wp2;go_ret;exact⟨rfl,a⟩
def I4 (a:Option Addr) (n c:Nat) (l:List Int) (a2:Option Addr) (m d:Nat) (r:List Int) (k:Option Addr) (q p:Nat) (num:Int) (w:World) (g:Src w a n l) (dQ:Src w a2 m r) (lu:¬(n=512/\m=512)):
  Calls prog 132 #[.slice a n c, .slice a2 m d,iV num, .slice k q p] w λe w'=>e= .returned (.tuple #[iV 0, .slice none 0 0,iV 2])/\bW w w':=by
 have A5:(decide (n=512) && decide (m=512))=false:=by rw [<-Bool.decide_and,decide_eq_false lu]
 clear lu;obtain⟨t,h1,aJ,bC⟩:=jJ jh (gY a n c l a2 m d r w g dQ) (iN (aE l) (aE r)) (all_oneCell_toArray (bD (ba l ++ ba r)));have uh:(bs (ba l ++ ba r)).length=1024:=by rw [bs,ju,gT,aE,aE]
 obtain⟨F,f⟩:=cF (bs (ba l ++ ba r));rw [<-f] at h1 aJ bC uh;have i:=yh f;clear f g dQ;go_in;go_wp2_with fail;refine ef h1 λw1 aq=>?_;have bd:(w1.alloc (.cells bM 190)).heap[w1.heap.size]? =some (.cells bM 190 (0,0)):=heap_alloc_new _ _;have cC:=aZ bd b9;rw [<-uh] at cC;have aH:bW w (w1.alloc (.cells bM 190)):=aq.alloc aq.size _;have fy:=aq.size;have eY:=aH.trans ((ad.setCells (F:=λj=>j=w1.heap.size) rfl F 0 _).below (λj s=>by omega) aH.size);have aA:=dC (l:=ba l ++ ba r) bd (by rw [b9,gT,aE,aE]);rw [<-i.o] at aA;obtain⟨u,ed⟩:=cF ((w1.alloc (.cells bM 190)).setCells w1.heap.size 0 F);rw [<-ed] at eY aA;obtain⟨b,oZ⟩:=eA eY ed;clear h1 bd aH aq eY aA ed;rw [A5];go_wp2_with (refine wpList_store_mid rfl 190 _ _ rfl w1.heap.size 0 F.toArray rfl rfl ?h1 ?h2 bC ?_);case h1=>simpa using cC
 case h2=>simpa using aJ
 rw [<-oZ.o];go_ret3;exact⟨rfl,b.o⟩
def I5 (a:Option Addr) (n c:Nat) (l:List Int) (a2:Option Addr) (m d:Nat) (r:List Int) (k:Option Addr) (q p:Nat) (num:Int) (w:World) (g:Src w a n l) (dQ:Src w a2 m r) (lL:n=512/\m=512) (s:num<1):
  Calls prog 132 #[.slice a n c, .slice a2 m d,iV num, .slice k q p] w λe w'=>e= .returned (.tuple #[iV 0, .slice none 0 0,iV 1])/\bW w w':=by
 have A5:(decide (n=512) && decide (m=512))=true:=by rw [<-Bool.decide_and,decide_eq_true lL]
 clear lL;obtain⟨u,h1,aJ,bC⟩:=jJ jh (gY a n c l a2 m d r w g dQ) (iN (aE l) (aE r)) (all_oneCell_toArray (bD (ba l ++ ba r)));have uh:(bs (ba l ++ ba r)).length=1024:=by rw [bs,ju,gT,aE,aE]
 obtain⟨F,f⟩:=cF (bs (ba l ++ ba r));rw [<-f] at h1 aJ bC uh;have i:=yh f;clear f g dQ;go_in;go_wp2_with fail;refine ef h1 λw1 aq=>?_;have bd:(w1.alloc (.cells bM 190)).heap[w1.heap.size]? =some (.cells bM 190 (0,0)):=heap_alloc_new _ _;have cC:=aZ bd b9;rw [<-uh] at cC;have aH:bW w (w1.alloc (.cells bM 190)):=aq.alloc aq.size _;have fy:=aq.size;have eY:=aH.trans ((ad.setCells (F:=λj=>j=w1.heap.size) rfl F 0 _).below (λj t=>by omega) aH.size);have aA:=dC (l:=ba l ++ ba r) bd (by rw [b9,gT,aE,aE]);rw [<-i.o] at aA;obtain⟨v,ed⟩:=cF ((w1.alloc (.cells bM 190)).setCells w1.heap.size 0 F);rw [<-ed] at eY aA;obtain⟨b,oZ⟩:=eA eY ed;clear h1 bd aH aq eY aA ed;rw [A5];go_wp2_with (refine wpList_store_mid rfl 190 _ _ rfl w1.heap.size 0 F.toArray rfl rfl ?h1 ?h2 bC ?_);case h1=>simpa using cC
 case h2=>simpa using aJ
 rw [<-oZ.o];go_ret3;exact⟨rfl,b.o⟩
def I6 (a:Option Addr) (n c:Nat) (l:List Int) (a2:Option Addr) (m d:Nat) (r:List Int) (k:Option Addr) (q p:Nat) (num:Int) (w:World) (g:Src w a n l) (dQ:Src w a2 m r) (lL:n=512/\m=512) (s:¬num<1) (WJ:496<q):
  Calls prog 132 #[.slice a n c, .slice a2 m d,iV num, .slice k q p] w λe w'=>e= .returned (.tuple #[iV 0, .slice none 0 0,iV 7])/\bW w w':=by
 have A5:(decide (n=512) && decide (m=512))=true:=by rw [<-Bool.decide_and,decide_eq_true lL]
 have agH:496<(q:Int):=by omega
 clear lL;obtain⟨u,h1,aJ,bC⟩:=jJ jh (gY a n c l a2 m d r w g dQ) (iN (aE l) (aE r)) (all_oneCell_toArray (bD (ba l ++ ba r)));have uh:(bs (ba l ++ ba r)).length=1024:=by rw [bs,ju,gT,aE,aE]
 obtain⟨F,f⟩:=cF (bs (ba l ++ ba r));rw [<-f] at h1 aJ bC uh;have i:=yh f;clear f g dQ;go_in;go_wp2_with fail;refine ef h1 λw1 aq=>?_;have bd:(w1.alloc (.cells bM 190)).heap[w1.heap.size]? =some (.cells bM 190 (0,0)):=heap_alloc_new _ _;have cC:=aZ bd b9;rw [<-uh] at cC;have aH:bW w (w1.alloc (.cells bM 190)):=aq.alloc aq.size _;have fy:=aq.size;have eY:=aH.trans ((ad.setCells (F:=λj=>j=w1.heap.size) rfl F 0 _).below (λj t=>by omega) aH.size);have aA:=dC (l:=ba l ++ ba r) bd (by rw [b9,gT,aE,aE]);rw [<-i.o] at aA;obtain⟨v,ed⟩:=cF ((w1.alloc (.cells bM 190)).setCells w1.heap.size 0 F);rw [<-ed] at eY aA;obtain⟨b,oZ⟩:=eA eY ed;clear h1 bd aH aq eY aA ed;rw [A5];go_wp2_with (refine wpList_store_mid rfl 190 _ _ rfl w1.heap.size 0 F.toArray rfl rfl ?h1 ?h2 bC ?_);case h1=>simpa using cC
 case h2=>simpa using aJ
 rw [<-oZ.o];go_ret3;exact⟨rfl,b.o⟩
def I7 (a:Option Addr) (n c:Nat) (l:List Int) (a2:Option Addr) (m d:Nat) (r:List Int) (p:Option Addr) (q s:Nat) (num:Int) (w:World) (g:Src w a n l) (dQ:Src w a2 m r) (u:Bytes l) (y:Bytes r) (lL:n=512/\m=512) (t:¬num<1) (WJ:q<=496) (Qc:num<=(((ai l r).2.1:Nat):Int)):
  Calls prog 132 #[.slice a n c, .slice a2 m d,iV num, .slice p q s] w λe w'=>e= .returned (.tuple #[iV 0, .slice none 0 0,iV 31])/\bW w w':=by
 obtain⟨Tq,ws⟩:=lL;subst Tq;subst ws;have A5:(decide (512=512) && decide (512=512))=true:=rfl;have RS:=yh Qc;clear Qc;obtain⟨I,h1,zR,GQ,aJ,bC⟩:=rY jh (gY a 512 c l a2 512 d r w g dQ) g.1 dQ.1 (iN (aE l) (aE r)) (all_oneCell_toArray (bD (ba l ++ ba r)));have uh:(bs (ba l ++ ba r)).length=1024:=by rw [bs,ju,gT,aE,aE]
 obtain⟨F,f⟩:=cF (bs (ba l ++ ba r));rw [<-f] at h1 aJ bC uh;have k:=yh f;clear f g dQ;go_in;go_wp2_with fail;refine ef h1 λw1 aq=>?_;have bd:(w1.alloc (.cells bM 190)).heap[w1.heap.size]? =some (.cells bM 190 (0,0)):=heap_alloc_new _ _;have cC:=aZ bd b9;rw [<-uh] at cC;have aH:bW w (w1.alloc (.cells bM 190)):=aq.alloc aq.size _;have fy:=aq.size;have eY:=aH.trans ((ad.setCells (F:=λj=>j=w1.heap.size) rfl F 0 _).below (λj H=>by omega) aH.size);have aA:=dC (l:=ba l ++ ba r) bd (by rw [b9,gT,aE,aE]);rw [<-k.o] at aA;obtain⟨G,ed⟩:=cF ((w1.alloc (.cells bM 190)).setCells w1.heap.size 0 F);rw [<-ed] at eY aA;obtain⟨b,pV,oZ⟩:=pJ eY aA ed;clear h1 bd aH aq eY aA ed;rw [A5];rw [(fb zR),(fb GQ)] at pV;obtain⟨s1,s2⟩:=oJ pV.o zR GQ;have i:=mF w1.heap.size l r G s1 s2 u y;clear s1 s2 pV;go_wp2_with (refine wpList_store_mid rfl 190 _ _ rfl w1.heap.size 0 F.toArray rfl rfl ?h1 ?h2 bC ?_);case h1=>simpa using cC
 case h2=>simpa using aJ
 rw [<-oZ.o];refine i.mono ?_;rintro e J ⟨v,rfl,fX,bH⟩;obtain⟨C,E,z,x⟩:=fX;subst z;have nB:=yh ((b.o.trans (bH.mono b.o.size)).alloc (xv b.o.size bH.size) (.cells #[.int .i64 (((ai l r).1:Nat):Int), .int .i64 (((ai l r).2.1:Nat):Int), .slice C (ai l r).2.2.1.length E] 194));clear i x bH oZ cC aJ bC b;have Qc:=RS.o;clear RS;generalize (ai l r).1=A at*;generalize (ai l r).2.1=B at*;generalize (ai l r).2.2.1.length=D at*;go_wp2;go_ret3;exact⟨rfl,nB.o⟩
def I8 (a:Option Addr) (n c:Nat) (l:List Int) (a2:Option Addr) (m d:Nat) (r:List Int) (k:Option Addr) (q u:Nat) (b:List Int) (num:Int) (w:World) (E:Src w a n l) (dQ:Src w a2 m r) (hl:Bytes l) (hr:Bytes r) (lL:n=512/\m=512) (N:Nat) (mH:num=(N:Int)) (Tr:1<=N) (z:N<9223372036854775808) (o7:Src w k q b) (fZ:Bytes b) (WJ:q<=496) (ly:k=none->u=0) (Qc:(ai l r).2.1<N) (M:(ai l r).1<=1) (BS:(if (ai l r).2.1=0 then 0 else 1-(ai l r).1)=0):
  Calls prog 132 #[.slice a n c, .slice a2 m d,iV num, .slice k q u] w λe w'=>∃g,e= .returned (.tuple #[iV 0, .slice (some (aD g 0)) 512 512,iV 0])/\gA w' 188 g (bc (cG (l.getD 0 0) (l.getD 511 0)) (bj N ++ b))/\w.heap.size<=g/\bW w w':=by
 subst mH;obtain⟨Tq,ws⟩:=lL;subst Tq;subst ws;have A5:(decide (512=512) && decide (512=512))=true:=rfl;obtain⟨RS,K,BT⟩:=pJ Qc M BS;clear Qc M BS;obtain⟨T,tf,eE,hz,h1,zR,GQ,aJ,bC⟩:=SM (yh o7) o7.1 gN jh (gY a 512 c l a2 512 d r w E dQ) E.1 dQ.1 (iN (aE l) (aE r)) (all_oneCell_toArray (bD (ba l ++ ba r)));have uh:(bs (ba l ++ ba r)).length=1024:=by rw [bs,ju,gT,aE,aE]
 obtain⟨F,x⟩:=cF (bs (ba l ++ ba r));rw [<-x] at h1 aJ bC uh;have U:=yh x;clear x E dQ o7;go_in;go_wp2_with fail;refine ef h1 λw1 aq=>?_;have bd:(w1.alloc (.cells bM 190)).heap[w1.heap.size]? =some (.cells bM 190 (0,0)):=heap_alloc_new _ _;have cC:=aZ bd b9;rw [<-uh] at cC;have aH:bW w (w1.alloc (.cells bM 190)):=aq.alloc aq.size _;have fy:=aq.size;have eY:=aH.trans ((ad.setCells (F:=λj=>j=w1.heap.size) rfl F 0 _).below (λj Z=>by omega) aH.size);have aA:=dC (l:=ba l ++ ba r) bd (by rw [b9,gT,aE,aE]);rw [<-U.o] at aA;obtain⟨w2,ed⟩:=cF ((w1.alloc (.cells bM 190)).setCells w1.heap.size 0 F);rw [<-ed] at eY aA;obtain⟨i,pV,oZ⟩:=pJ eY aA ed;clear h1 bd aH aq eY aA ed;rw [A5];rw [(fb zR),(fb GQ)] at pV;obtain⟨s1,s2⟩:=oJ pV.o zR GQ;have P:=mF w1.heap.size l r w2 s1 s2 hl hr;have KW:=yh s1;clear s1 s2 pV;go_wp2_with (refine wpList_store_mid rfl 190 _ _ rfl w1.heap.size 0 F.toArray rfl rfl ?h1 ?h2 bC ?_);case h1=>simpa using cC
 case h2=>simpa using aJ
 rw [<-oZ.o];refine P.mono ?_;rintro e J ⟨v,rfl,fX,bH⟩;obtain⟨Q,R,hv,hq⟩:=fX;subst hv;have gP:=i.o.trans (bH.mono i.o.size);have eK:bW J (J.alloc (.cells #[.int .i64 (((ai l r).1:Nat):Int), .int .i64 (((ai l r).2.1:Nat):Int), .slice Q (ai l r).2.2.1.length R] 194)):=(cW _ J).alloc (di _) _;obtain⟨mB,L,C⟩:=pJ (gP.trans (eK.mono gP.size)) ((KW.o.later bH).later eK) (λw'=>xM (ai l r).1 (ai l r).2.1 (.slice Q (ai l r).2.2.1.length R) w' K.o);rw [BT.o] at C;have abr:¬(N:Int)<=(((ai l r).2.1:Nat):Int):=by have:=RS.o;omega
 clear RS K BT;clear P hq bH oZ cC aJ bC i gP eK KW;generalize (ai l r).1=A at*;generalize (ai l r).2.1=B at*;generalize (ai l r).2.2.1.length=D at*;go_wp2_with fail;refine(C.out _).mono ?_;rintro e S ⟨rfl,gc⟩;obtain⟨pt,O4⟩:=eA (mB.o.trans (gc.mono mB.o.size)) (L.o.later gc);have p:=O4.o.2.2 _ rfl 0 (by omega);have s:=O4.o.2.2 _ rfl 511 (by omega);rw [aV] at p s;have H:=my w1.heap.size 0 (l.getD 0 0) (l.getD 511 0) S p s;have ht:=fj (l.getD 0 0) (l.getD 511 0);obtain⟨t,tS⟩:=cF (cG (l.getD 0 0) (l.getD 511 0));rw [<-tS] at ht H;have LZ:=yh tS;clear C gc mB L p s tS;go_wp2_with fail;refine ef H λw' O=>?_;have fJ:=O.symm;subst fJ;clear O H;go_wp2_with fail;refine(nT N k q u b S z (T.o.later pt.o) WJ ly).mono ?_;rintro e w6 ⟨v6,rfl,WK,DZ⟩;obtain⟨p6,Y,rfl,Ts,_,_⟩:=WK.src;have fU:(bj N ++ b).length=8+q:=by rw [gT,dN,tf]
 rw [fU] at Ts⊢;have Qd:=yh (pt.o.trans (DZ.mono pt.o.size));have I:=mA t p6 (8+q) Y (bj N ++ b) w6 (by omega) Ts (by omega) ((mw N).append fZ);have nj:(bc t (bj N ++ b)).length=512:=eS (by omega);have uW:=gD (l:=bc t (bj N ++ b)) nj;have BU:=all_oneCell_toArray (bD (bc t (bj N ++ b)));have zM:(bs (bc t (bj N ++ b))).length=512:=by rw [bs,ju,nj]
 obtain⟨G,y⟩:=cF (bs (bc t (bj N ++ b)));rw [<-y] at I uW BU zM;have W:=yh y;clear WK DZ Ts pt y;generalize 8+q=Q8 at*;go_wp2_with fail;refine ef I λf GU=>?_;have sk:=Qd.o.trans (GU.mono Qd.o.size);have A6:(f.alloc (.cells aM 188)).heap[f.heap.size]? =some (.cells aM 188 (0,0)):=heap_alloc_new _ _;have cC:=aZ A6 bL;rw [<-zM] at cC;have aA:=dC (l:=bc t (bj N ++ b)) A6 (by rw [bL,nj]);rw [<-W.o] at aA;have abs:=sk.size;have I3:bW w (f.alloc (.cells aM 188)):=sk.alloc sk.size _;have Mf:=I3.trans ((ad.setCells (F:=λj=>j=f.heap.size) rfl G 0 _).below (λj Z=>by omega) I3.size);rw [LZ.o] at aA;have X:=yh (λj=>aQ (aA.ak (w':=((f.alloc (.cells aM 188)).setCells f.heap.size 0 G).drewN j) rfl) (aQ sk.size (below_drewN Mf j)));clear I GU sk A6 aA I3 Mf Qd;go_wp2_with (refine wpList_store_mid rfl 188 _ _ rfl f.heap.size 0 G.toArray rfl rfl ?h1 ?h2 BU ?_);case h1=>simpa using cC
 case h2=>simpa using uW
 go_quiet (fail);go_wp2;go_ret3;exact⟨f.heap.size,rfl,X.o _⟩
def I9 (a:Option Addr) (n c:Nat) (l:List Int) (a2:Option Addr) (m d:Nat) (r:List Int) (k:Option Addr) (q u:Nat) (b:List Int) (num:Int) (w:World) (E:Src w a n l) (dQ:Src w a2 m r) (hl:Bytes l) (hr:Bytes r) (lL:n=512/\m=512) (N:Nat) (mH:num=(N:Int)) (Tr:1<=N) (z:N<9223372036854775808) (o7:Src w k q b) (fZ:Bytes b) (WJ:q<=496) (ly:k=none->u=0) (Qc:(ai l r).2.1<N) (M:(ai l r).1<=1) (BS:(if (ai l r).2.1=0 then 0 else 1-(ai l r).1)=1):
  Calls prog 132 #[.slice a n c, .slice a2 m d,iV num, .slice k q u] w λe w'=>∃g,e= .returned (.tuple #[iV 1, .slice (some (aD g 0)) 512 512,iV 0])/\gA w' 188 g (bc (cG (r.getD 0 0) (r.getD 511 0)) (bj N ++ b))/\w.heap.size<=g/\bW w w':=by
 subst mH;obtain⟨Tq,ws⟩:=lL;subst Tq;subst ws;have A5:(decide (512=512) && decide (512=512))=true:=rfl;obtain⟨RS,K,BT⟩:=pJ Qc M BS;clear Qc M BS;obtain⟨T,tf,eE,hz,h1,zR,GQ,aJ,bC⟩:=SM (yh o7) o7.1 gN jh (gY a 512 c l a2 512 d r w E dQ) E.1 dQ.1 (iN (aE l) (aE r)) (all_oneCell_toArray (bD (ba l ++ ba r)));have uh:(bs (ba l ++ ba r)).length=1024:=by rw [bs,ju,gT,aE,aE]
 obtain⟨F,x⟩:=cF (bs (ba l ++ ba r));rw [<-x] at h1 aJ bC uh;have U:=yh x;clear x E dQ o7;go_in;go_wp2_with fail;refine ef h1 λw1 aq=>?_;have bd:(w1.alloc (.cells bM 190)).heap[w1.heap.size]? =some (.cells bM 190 (0,0)):=heap_alloc_new _ _;have cC:=aZ bd b9;rw [<-uh] at cC;have aH:bW w (w1.alloc (.cells bM 190)):=aq.alloc aq.size _;have fy:=aq.size;have eY:=aH.trans ((ad.setCells (F:=λj=>j=w1.heap.size) rfl F 0 _).below (λj Z=>by omega) aH.size);have aA:=dC (l:=ba l ++ ba r) bd (by rw [b9,gT,aE,aE]);rw [<-U.o] at aA;obtain⟨w2,ed⟩:=cF ((w1.alloc (.cells bM 190)).setCells w1.heap.size 0 F);rw [<-ed] at eY aA;obtain⟨i,pV,oZ⟩:=pJ eY aA ed;clear h1 bd aH aq eY aA ed;rw [A5];rw [(fb zR),(fb GQ)] at pV;obtain⟨s1,s2⟩:=oJ pV.o zR GQ;have P:=mF w1.heap.size l r w2 s1 s2 hl hr;have Ja:=yh s2;clear s1 s2 pV;go_wp2_with (refine wpList_store_mid rfl 190 _ _ rfl w1.heap.size 0 F.toArray rfl rfl ?h1 ?h2 bC ?_);case h1=>simpa using cC
 case h2=>simpa using aJ
 rw [<-oZ.o];refine P.mono ?_;rintro e J ⟨v,rfl,fX,bH⟩;obtain⟨Q,R,hv,hq⟩:=fX;subst hv;have gP:=i.o.trans (bH.mono i.o.size);have eK:bW J (J.alloc (.cells #[.int .i64 (((ai l r).1:Nat):Int), .int .i64 (((ai l r).2.1:Nat):Int), .slice Q (ai l r).2.2.1.length R] 194)):=(cW _ J).alloc (di _) _;obtain⟨mB,L,C⟩:=pJ (gP.trans (eK.mono gP.size)) ((Ja.o.later bH).later eK) (λw'=>xM (ai l r).1 (ai l r).2.1 (.slice Q (ai l r).2.2.1.length R) w' K.o);rw [BT.o] at C;have abr:¬(N:Int)<=(((ai l r).2.1:Nat):Int):=by have:=RS.o;omega
 clear RS K BT;clear P hq bH oZ cC aJ bC i gP eK Ja;generalize (ai l r).1=A at*;generalize (ai l r).2.1=B at*;generalize (ai l r).2.2.1.length=D at*;go_wp2_with fail;refine(C.out _).mono ?_;rintro e S ⟨rfl,gc⟩;obtain⟨pt,O4⟩:=eA (mB.o.trans (gc.mono mB.o.size)) (L.o.later gc);have p:=O4.o.2.2 _ rfl 0 (by omega);have s:=O4.o.2.2 _ rfl 511 (by omega);rw [aV] at p s;have H:=my w1.heap.size 512 (r.getD 0 0) (r.getD 511 0) S p s;have ht:=fj (r.getD 0 0) (r.getD 511 0);obtain⟨t,tS⟩:=cF (cG (r.getD 0 0) (r.getD 511 0));rw [<-tS] at ht H;have LZ:=yh tS;clear C gc mB L p s tS;go_wp2_with fail;refine ef H λw' O=>?_;have fJ:=O.symm;subst fJ;clear O H;go_wp2_with fail;refine(nT N k q u b S z (T.o.later pt.o) WJ ly).mono ?_;rintro e w6 ⟨v6,rfl,WK,DZ⟩;obtain⟨p6,Y,rfl,Ts,_,_⟩:=WK.src;have fU:(bj N ++ b).length=8+q:=by rw [gT,dN,tf]
 rw [fU] at Ts⊢;have Qd:=yh (pt.o.trans (DZ.mono pt.o.size));have I:=mA t p6 (8+q) Y (bj N ++ b) w6 (by omega) Ts (by omega) ((mw N).append fZ);have nj:(bc t (bj N ++ b)).length=512:=eS (by omega);have uW:=gD (l:=bc t (bj N ++ b)) nj;have BU:=all_oneCell_toArray (bD (bc t (bj N ++ b)));have zM:(bs (bc t (bj N ++ b))).length=512:=by rw [bs,ju,nj]
 obtain⟨G,y⟩:=cF (bs (bc t (bj N ++ b)));rw [<-y] at I uW BU zM;have W:=yh y;clear WK DZ Ts pt y;generalize 8+q=Q8 at*;go_wp2_with fail;refine ef I λf GU=>?_;have sk:=Qd.o.trans (GU.mono Qd.o.size);have A6:(f.alloc (.cells aM 188)).heap[f.heap.size]? =some (.cells aM 188 (0,0)):=heap_alloc_new _ _;have cC:=aZ A6 bL;rw [<-zM] at cC;have aA:=dC (l:=bc t (bj N ++ b)) A6 (by rw [bL,nj]);rw [<-W.o] at aA;have abs:=sk.size;have I3:bW w (f.alloc (.cells aM 188)):=sk.alloc sk.size _;have Mf:=I3.trans ((ad.setCells (F:=λj=>j=f.heap.size) rfl G 0 _).below (λj Z=>by omega) I3.size);rw [LZ.o] at aA;have X:=yh (λj=>aQ (aA.ak (w':=((f.alloc (.cells aM 188)).setCells f.heap.size 0 G).drewN j) rfl) (aQ sk.size (below_drewN Mf j)));clear I GU sk A6 aA I3 Mf Qd;go_wp2_with (refine wpList_store_mid rfl 188 _ _ rfl f.heap.size 0 G.toArray rfl rfl ?h1 ?h2 BU ?_);case h1=>simpa using cC
 case h2=>simpa using uW
 go_quiet (fail);go_wp2;go_ret3;exact⟨f.heap.size,rfl,X.o _⟩
def zS (l r:List Int):(ai l r).1<=1:=by
 unfold ai;split
 .simp
 .split
  .simp
  .split <;> simp
def zT {r:List Int} (b:l.length=512) (c:r.length=512):((ai l r).2.2.2=0/\0<(ai l r).2.1)\/((ai l r).2.2.2=30/\(ai l r).2.1=0/\(ai l r).1=0):=by
 rw [mE b c];by_cases q:(am l).1=0/\(am r).1=0
 .rw [aN q];exact .inr ⟨rfl,rfl,rfl⟩
 .rw [aB q];by_cases a:(am l).1<(am r).1
  .rw [aN a];exact .inl ⟨rfl,by simp only;omega⟩
  .rw [aB a];exact .inl ⟨rfl,by simp only;omega⟩
def Jb (a:Option Addr) (n c:Nat) (l:List Int) (a2:Option Addr) (m d:Nat) (r:List Int) (j:Option Addr) (q k:Nat) (b:List Int) (num:Int) (w:World) (p:Src w a n l) (dQ:Src w a2 m r) (x:Bytes l) (y:Bytes r)
    (o7:Src w j q b) (fZ:Bytes b) (ly:j=none->k=0) (D0:num<=9223372036854775807):
  Calls prog 132 #[.slice a n c, .slice a2 m d,iV num, .slice j q k] w λe w'=>∃v,e= .returned (.tuple #[iV (((aW l r num b).1:Nat):Int),v,iV (((aW l r num b).2.2:Nat):Int)])/\uf w' w.heap.size v (aW l r num b).2.1/\bW w w':=by
 obtain⟨zR,GQ,GV⟩:=tO p.1 dQ.1 o7.1;by_cases lL:n=512/\m=512
 .by_cases o:num<1
  .refine(I5 a n c l a2 m d r j q k num w p dQ lL o).mono ?_;rintro e w' ⟨rfl,i⟩;have f:aW l r num b=(0, [],1):=(by unfold aW;rw [aB (by omega),aN o]);rw [f];exact⟨_,rfl,uf.nil _ _,i⟩
  .by_cases A:496<q
   .refine(I6 a n c l a2 m d r j q k num w p dQ lL o A).mono ?_;rintro e w' ⟨rfl,i⟩;have f:aW l r num b=(0, [],7):=(by unfold aW;rw [aB (by omega),aB o,aN (by omega)]);rw [f];exact⟨_,rfl,uf.nil _ _,i⟩
   .by_cases s:num<=(((ai l r).2.1:Nat):Int)
    .refine(I7 a n c l a2 m d r j q k num w p dQ x y lL o (by omega) s).mono ?_;rintro e w' ⟨rfl,i⟩;have f:aW l r num b=(0, [],31):=(by unfold aW;rw [aB (by omega),aB o,aB (by omega)];simp only;rw [aN s]);rw [f];exact⟨_,rfl,uf.nil _ _,i⟩
    .obtain⟨N,t⟩:∃N:Nat,num=(N:Int):=⟨num.toNat,by omega⟩;have z:=zS l r;have lu:=zT (l:=l) (r:=r) (by omega) (by omega);have tf:(bj N ++ b).length<=504:=(by rw [gT,dN];omega);by_cases zl:(ai l r).2.2.2=0/\(ai l r).1=0
     .refine(I9 a n c l a2 m d r j q k b num w p dQ x y lL N t (by omega) (by omega) o7 fZ (by omega) ly (by omega) z (by rw [aB (by omega)];omega)).mono ?_;rintro e w' ⟨g,rfl,aA,u,i⟩;have f:aW l r num b=(1,bc (cG (r.getD 0 0) (r.getD 511 0)) (bj N ++ b),0):=(by unfold aW;rw [aB (by omega),aB o,aB (by omega)];simp only;rw [aB s,aN zl,t,t7]);rw [f];have:=aA.Wx u;rw [eS tf] at this;exact⟨_,rfl,this,i⟩
     .refine(I8 a n c l a2 m d r j q k b num w p dQ x y lL N t (by omega) (by omega) o7 fZ (by omega) ly (by omega) z (by split <;> omega)).mono ?_;rintro e w' ⟨g,rfl,aA,u,i⟩;have f:aW l r num b=(0,bc (cG (l.getD 0 0) (l.getD 511 0)) (bj N ++ b),0):=(by unfold aW;rw [aB (by omega),aB o,aB (by omega)];simp only;rw [aB s,aB zl,t,t7]);rw [f];have:=aA.Wx u;rw [eS tf] at this;exact⟨_,rfl,this,i⟩
 .refine(I4 a n c l a2 m d r j q k num w p dQ lL).mono ?_;rintro e w' ⟨rfl,i⟩;have f:aW l r num b=(0, [],2):=by unfold aW;rw [aN (by omega)]
  rw [f];exact⟨_,rfl,uf.nil _ _,i⟩
def wP (l r:List Int):(ai l r).2.1<=9223372036854775807:=by
 have a:=iY l;have b:=iY r;unfold ai;split
 .simp
 .split
  .simp
  .split <;> simp only <;> omega
def Qe (s:Nat) (x:Int) (h:S.fuse=0):S.rd s x=(3,S, []):=aN h
def Mg (h:S.fuse≠0) (a:k<s):S.rd s (k:Int)=(0,S.read,S.now k):=by
 unfold DS.rd;rw [aB h,aB (by omega)];simp
def Out.low {b:Nat} (h:Out lo w l v) (g:b<=lo):Out b w l v:=by
 obtain⟨a,c,rfl,d,f⟩:=h;exact⟨a,c,rfl,d,λx e=>xv g (f x e)⟩
def ad.boxed (F:Nat->Prop) (o:Obj):ad F w (w.alloc o):=ad.alloc F w o
def Jc (h:aI w F p s S) (f n:Int) (bn:S.puts.length+1<=4000000000000) (b:S.fuse=0):
  Calls prog 131 #[jg p f n] w λe w'=>e= .returned (.tuple #[.slice none 0 0, .slice none 0 0,iV 3])/\aI w' F p s S/\ad F w w':=by
 have a:=qO (h.boxed (.cells #[.pointer (some ⟨p,0,none⟩), .int .i64 f, .int .i64 n] 136)) f bn;rw [Qe _ _ b] at a;go_in;go_wp2_with fail;refine a.mono ?_;rintro e w1 ⟨v,rfl,_,hd,c⟩;go_wp2;go_ret3;exact⟨rfl,hd,(ad.boxed (w:=w) F (.cells #[.pointer (some ⟨p,0,none⟩), .int .i64 f, .int .i64 n] 136)).trans c (λ_ h=> .inl h)⟩
def uX {w1:World} {o:Obj} (b:∀k,F k->k<w.heap.size) (a:ad F (w.alloc o) w1):w1.heap[w.heap.size]? =some o:=by
 rw [a.block w.heap.size (by simp) (λh=>by have:=b _ h;omega)];exact heap_alloc_new _ _
def GW (h:aI w F p s S) (f:Nat) (n:Int) (bn:S.puts.length+1<=4000000000000) (l:S.fuse≠0) (o:f+1<s):
  Calls prog 131 #[jg p f n] w λe w'=>∃v1 c,e= .returned (.tuple #[v1,c,iV 0])/\Out w.heap.size w' (S.now f) v1/\Out w.heap.size w' (S.now (f+1)) c/\aI w' F p s S.read.read/\ad F w w':=by
 have i:=qO (h.boxed (.cells #[.pointer (some ⟨p,0,none⟩), .int .i64 f, .int .i64 n] 136)) f bn;rw [Mg l (by omega)] at i;have dQ:=h.ok.hi;have g:=h.lt;go_in;go_wp2_with fail;refine i.mono ?_;rintro e w1 ⟨v,rfl,m,hd,a⟩;have cO:=uX g a;have KU:=aL cO;have kZ:=bY cO;have j:=qO hd ((f+1:Nat):Int) (by simpa [DS.read] using bn);rw [Mg (S:=S.read) l o] at j;have d:=((ad.boxed (w:=w) F (.cells #[.pointer (some ⟨p,0,none⟩), .int .i64 f, .int .i64 n] 136)).trans a (λ_ h=> .inl h));go_wp2_with fail;refine j.mono ?_;rintro e q ⟨c,rfl,uQ,dS,aK⟩;have b:=(m.keeps aK (λk a=>by have:=g k a;simp;omega));go_wp2;go_ret3;exact⟨_,_,rfl,b.low (by simp),uQ.low d.size,dS,d.trans aK (λ_ h=> .inl h)⟩
def gQ (l r:List Int):Nat×Nat×Nat:=
 if (ai l r).2.2.2≠0\/0<(ai l r).2.2.1.length\/(ai l r).2.1 / 4294967296<1\/1073741824<(ai l r).2.1 / 4294967296\/1073741824<(ai l r).2.1%4294967296 then (0,0,6)
 else ((ai l r).2.1 / 4294967296,(ai l r).2.1%4294967296,0)
def Jd (a:Nat) (d:a<9223372036854775808):bits .and .i64 (a:Int) 4294967295=((a%4294967296:Nat):Int):=by
 have b:(BitVec.ofInt 64 (a:Int)).toNat=a:=by rw [BitVec.ofInt_natCast,BitVec.toNat_ofNat];exact Nat.mod_eq_of_lt (by omega)
 have c:(BitVec.ofInt 64 (4294967295:Int)).toNat=2 ^ 32-1:=by decide
 show IntKind.i64.wrap ((BitVec.ofInt 64 (a:Int) &&& BitVec.ofInt 64 (4294967295:Int)).toNat:Int)=_;rw [BitVec.toNat_and,b,c,IntKind.wrap_i64,Nat.and_two_pow_sub_one_eq_mod];omega
def EI (h:aI w F p s S) (f:Nat) (n:Int) (bn:S.puts.length+1<=4000000000000) (y:S.fuse≠0) (z:f+1<s) (aq:Bytes (S.now f)) (aG:Bytes (S.now (f+1))):
  Calls prog 137 #[jg p f n] w λe w'=>e= .returned (.tuple #[iV ((gQ (S.now f) (S.now (f+1))).1:Int),iV ((gQ (S.now f) (S.now (f+1))).2.1:Int),iV ((gQ (S.now f) (S.now (f+1))).2.2:Int)])/\aI w' F p s S.read.read/\ad F w w':=by
 have j:=ad.boxed (w:=w) F (.cells #[.pointer (some ⟨p,0,none⟩), .int .i64 f, .int .i64 n] 136);have i:=GW (h.boxed (.cells #[.pointer (some ⟨p,0,none⟩), .int .i64 f, .int .i64 n] 136)) f n bn y z;have I:=wP (l:=S.now f) (r:=S.now (f+1));have k:=λa1 C b a2 G c w1 gV dQ=>BR a1 C b (S.now f) a2 G c (S.now (f+1)) w1 gV dQ aq aG;unfold gQ;generalize (ai (S.now f) (S.now (f+1))).2.1=N at*;generalize (ai (S.now f) (S.now (f+1))).2.2.2=E at*;generalize (ai (S.now f) (S.now (f+1))).2.2.1=D at*;generalize (ai (S.now f) (S.now (f+1))).1=K at*;have A:(N:Int) / 4294967296=((N / 4294967296:Nat):Int):=by omega
 have x:=Jd N (by omega);have H:N%4294967296<4294967296:=Nat.mod_lt _ (by omega);have J:N / 4294967296<2147483648:=by omega
 generalize N / 4294967296=Q at*;generalize N%4294967296=M at*;by_cases L:E≠0
 .rw [aN (by omega)];go_in;go_wp2_with fail;refine i.mono ?_;rintro e w1 ⟨q,t,rfl,BV,uQ,hd,g⟩;obtain⟨a1,b,rfl,gV,_⟩:=BV;obtain⟨a2,c,rfl,dQ,_⟩:=uQ;have d:=(j.trans g (λ_ h=> .inl h));go_wp2_with fail;refine(k a1 _ b a2 _ c w1 gV dQ).mono ?_;rintro e u ⟨v,rfl,⟨m,o,rfl,_,_,_⟩,a⟩;have nU:=(hd.ak (ad.ag (λ_=>False) a) (λ_ _ h=>h));go_wp2;go_ret3;exact⟨rfl,nU,d.trans (ad.ag (λ_=>False) a) (λ_ h=>h.elim)⟩
 .obtain rfl:E=0:=by omega
  by_cases O:0<D.length
  .rw [aN (by omega)];go_in;go_wp2_with fail;refine i.mono ?_;rintro e w1 ⟨q,t,rfl,BV,uQ,hd,g⟩;obtain⟨a1,b,rfl,gV,_⟩:=BV;obtain⟨a2,c,rfl,dQ,_⟩:=uQ;have d:=(j.trans g (λ_ h=> .inl h));go_wp2_with fail;refine(k a1 _ b a2 _ c w1 gV dQ).mono ?_;rintro e u ⟨v,rfl,⟨m,o,rfl,_,_,_⟩,a⟩;have nU:=(hd.ak (ad.ag (λ_=>False) a) (λ_ _ h=>h));go_wp2;go_ret3;exact⟨rfl,nU,d.trans (ad.ag (λ_=>False) a) (λ_ h=>h.elim)⟩
  .obtain rfl:D= []:=List.length_eq_zero_iff.mp (by omega);by_cases P:Q<1
   .rw [aN (by omega)];obtain rfl:Q=0:=(by omega);go_in;go_wp2_with fail;refine i.mono ?_;rintro e w1 ⟨q,t,rfl,BV,uQ,hd,g⟩;obtain⟨a1,b,rfl,gV,_⟩:=BV;obtain⟨a2,c,rfl,dQ,_⟩:=uQ;have d:=(j.trans g (λ_ h=> .inl h));go_wp2_with fail;refine(k a1 _ b a2 _ c w1 gV dQ).mono ?_;rintro e u ⟨v,rfl,⟨m,o,rfl,_,_,_⟩,a⟩;have nU:=(hd.ak (ad.ag (λ_=>False) a) (λ_ _ h=>h));go_wp2;go_ret3;exact⟨rfl,nU,d.trans (ad.ag (λ_=>False) a) (λ_ h=>h.elim)⟩
   .skip
    by_cases R:1073741824<Q
    .rw [aN (by omega)];go_in;go_wp2_with fail;refine i.mono ?_;rintro e w1 ⟨q,t,rfl,BV,uQ,hd,g⟩;obtain⟨a1,b,rfl,gV,_⟩:=BV;obtain⟨a2,c,rfl,dQ,_⟩:=uQ;have d:=(j.trans g (λ_ h=> .inl h));go_wp2_with fail;refine(k a1 _ b a2 _ c w1 gV dQ).mono ?_;rintro e u ⟨v,rfl,⟨m,o,rfl,_,_,_⟩,a⟩;have nU:=(hd.ak (ad.ag (λ_=>False) a) (λ_ _ h=>h));go_wp2;go_ret3;exact⟨rfl,nU,d.trans (ad.ag (λ_=>False) a) (λ_ h=>h.elim)⟩
    .skip
     by_cases T:1073741824<M
     .rw [aN (by omega)];go_in;go_wp2_with fail;refine i.mono ?_;rintro e w1 ⟨q,t,rfl,BV,uQ,hd,g⟩;obtain⟨a1,b,rfl,gV,_⟩:=BV;obtain⟨a2,c,rfl,dQ,_⟩:=uQ;have d:=(j.trans g (λ_ h=> .inl h));go_wp2_with fail;refine(k a1 _ b a2 _ c w1 gV dQ).mono ?_;rintro e u ⟨v,rfl,⟨m,o,rfl,_,_,_⟩,a⟩;have nU:=(hd.ak (ad.ag (λ_=>False) a) (λ_ _ h=>h));go_wp2;go_ret3;exact⟨rfl,nU,d.trans (ad.ag (λ_=>False) a) (λ_ h=>h.elim)⟩
     .skip
      rw [aB (by simp;omega)];go_in;go_wp2_with fail;refine i.mono ?_;rintro e w1 ⟨q,t,rfl,BV,uQ,hd,g⟩;obtain⟨a1,b,rfl,gV,_⟩:=BV;obtain⟨a2,c,rfl,dQ,_⟩:=uQ;have d:=(j.trans g (λ_ h=> .inl h));go_wp2_with fail;refine(k a1 _ b a2 _ c w1 gV dQ).mono ?_;rintro e u ⟨v,rfl,⟨m,o,rfl,_,_,_⟩,a⟩;have nU:=(hd.ak (ad.ag (λ_=>False) a) (λ_ _ h=>h));go_wp2;go_ret3;exact⟨rfl,nU,d.trans (ad.ag (λ_=>False) a) (λ_ h=>h.elim)⟩
def uY (S:DS) (s f:Nat) (num:Int):Int×DS:=
 let R:=aW (S.now f) (S.now (f+1)) num []
 if R.2.2≠0 then ((R.2.2:Int),S.read.read) else
 let W:=S.read.read.wr s ((f:Int)+(R.1:Int)) 512 R.2.1
 if W.1≠0 then W else W.2.fl s
def af {b:Nat} {o:Obj} (h:w.heap[b]? =some o):b<w.heap.size:=by
 rcases Nat.lt_or_ge b w.heap.size with a|a
 .exact a
 .rw [Array.getElem?_eq_none a] at h;cases h
def uZ {b:World} (e:∀k,F k->k<w.heap.size) (c:ad F w w2) (d:ad F w2 w3) (g:w3.heap.size<=b.heap.size) (h:aI b (more F w2 w3) p s S):aI b (more F w b) p s S:=by
 have a2:=c.size;have f:=d.size;refine h.mono (λk a=>?_) (λk a=>?_)
 .rcases a with a|a
  .exact .inl a
  .exact .inr ⟨by omega,by omega⟩
 .rcases a with a|a
  .have:=e k a;omega
  .exact a.2
def Je (c:∀k,F k->k<w.heap.size) (a:ad F w w2) (b:ad F w2 w3) (h:aI w3 (more F w2 w3) p s S):aI w3 (more F w w3) p s S:=
 uZ c a b (di _) h
def lz (l r:List Int) (num:Int) (a:List Int) (h0:(aW l r num a).2.2=0):(aW l r num a).2.1.length=512:=by
 have h:∀(t:Int) (N:Nat),a.length<=496->(bc t (bj N ++ a)).length=512:=λt N hd=>by rw [eS (by rw [gT,dN];omega)]
 revert h0;unfold aW;split
 .intro h0;cases h0
 .split
  .intro h0;cases h0
  .split
   .intro h0;cases h0
   .dsimp only
    split
    .intro h0;cases h0
    .split
     .intro _;exact h _ _ (by omega)
     .intro _;exact h _ _ (by omega)
def jk (l r:List Int) (num:Int) (a:List Int):(aW l r num a).1<=1:=by
 unfold aW;split
 .exact iq _
 .split
  .exact iq _
  .split
   .exact iq _
   .dsimp only
    split
    .exact iq _
    .split
     .exact di _
     .exact iq _
def Jf (h:aI w F p s S) (f:Nat) (n:Int) (E T:Nat) (hE:E<=1073741824) (hT:T<=1073741824) (bn:S.puts.length+2<=4000000000000) (P:S.fuse≠0) (Z:f+1<s) (aq:Bytes (S.now f)) (aG:Bytes (S.now (f+1))):
  Calls prog 96 #[jg p f n,iV (E:Int),iV (T:Int)] w λe w'=>e= .returned (iV (uY S s f ((E:Int)*4294967296+T)).1)/\aI w' (more F w w') p s (uY S s f ((E:Int)*4294967296+T)).2/\ad F w w':=by
 obtain⟨m,dQ,t,D⟩:=jJ (GW (h.boxed (.cells #[.pointer (some ⟨p,0,none⟩), .int .i64 f, .int .i64 n] 136)) f n (by omega) P Z) h.ok.hi (yh h.lt) (yh (ad.boxed (w:=w) F (.cells #[.pointer (some ⟨p,0,none⟩), .int .i64 f, .int .i64 n] 136)));have g:=λa1 n1 i a2 n2 k w1 gV dQ=>Jb a1 n1 i (S.now f) a2 n2 k (S.now (f+1)) none 0 0 [] ((E:Int)*4294967296+T) w1 gV dQ aq aG ⟨rfl,λ_=>rfl,λx M=>by cases M⟩ (by intro x M;cases M) (λ_=>rfl) (by omega);have kD:=jk (S.now f) (S.now (f+1)) ((E:Int)*4294967296+T) [];have zR:=lz (S.now f) (S.now (f+1)) ((E:Int)*4294967296+T) [];unfold uY;clear h P aq aG;obtain⟨R,I⟩:∃R,R=aW (S.now f) (S.now (f+1)) ((E:Int)*4294967296+T) []:=⟨_,rfl⟩;rw [<-I] at kD zR⊢;simp only [<-I] at g;clear I;obtain⟨K,L,X⟩:=R;simp only at kD zR g⊢;by_cases N:X≠0
 .rw [aN N];have d0:((X:Int) == 0)=false:=by rw [oE];omega
  go_in;go_wp2_with fail;refine m.mono ?_;rintro e w1 ⟨Q,U,rfl,BV,uQ,hd,c⟩;obtain⟨a1,i,rfl,gV,_⟩:=BV;obtain⟨a2,k,rfl,dQ,_⟩:=uQ;have d:=g a1 _ i a2 _ k w1 gV dQ;have q:=yh hd;have r:=yh (D.o.trans c (λ_ h=> .inl h));clear m gV dQ hd c g;go_wp2_with fail;refine d.mono ?_;rintro e W ⟨v,rfl,⟨A,C,rfl,_,_,_⟩,b⟩;obtain⟨nU,k8⟩:=eA (q.o.ak (ad.ag (λ_=>False) b) (λ_ _ h=>h)) (r.o.trans (ad.ag (λ_=>False) b) (λ_ h=>h.elim));clear d b;go_wp2;go_ret;exact⟨rfl,nU.o.more,k8.o⟩
 .obtain rfl:X=0:=by omega
  rw [aB N];clear N;have a:=zR rfl;clear zR;obtain⟨Y,J⟩:∃Y,Y=(S.read.read.wr s ((f:Int)+(K:Int)) 512 L):=⟨_,rfl⟩;rw [<-J];have H:=yh J;clear J;by_cases y:Y.1≠0
  .rw [aN y];go_in;go_wp2_with fail;refine m.mono ?_;rintro e w1 ⟨Q,U,rfl,BV,uQ,hd,c⟩;obtain⟨a1,i,rfl,gV,_⟩:=BV;obtain⟨a2,k,rfl,dQ,_⟩:=uQ;have d:=g a1 _ i a2 _ k w1 gV dQ;have cO:=uX t.o c;have r:=yh (D.o.trans c (λ_ h=> .inl h));have q:=yh hd;have u:=yh cO;clear m gV dQ hd c g cO;go_wp2_with fail;refine d.mono ?_;rintro e W ⟨v,rfl,⟨A,C,rfl,o7,_,_⟩,b⟩;have dS:=q.o.ak (ad.ag (λ_=>False) b) (λ_ _ h=>h);have k8:=yh (r.o.trans (ad.ag (λ_=>False) b) (λ_ h=>h.elim));have cO:=(b.block _ (af u.o)).trans u.o;have KU:=aL cO;have kZ:=bY cO;have l:=sj dS ((f:Int)+(K:Int)) A _ C L o7 (by simpa [DS.read] using (show S.puts.length+1<=4000000000000 by omega));rw [a] at l;have mI:=yh cO;clear d b dS o7 cO;rw [a];go_wp2_with fail;refine j8 l λw3 eO aR=>?_;have nV:=yh (k8.o.trans aR (λ_ h=> .inl h));rw [<-H.o] at eO⊢;have Mh:=yh (Je t.o k8.o aR eO);have d1:(Y.1 == 0)=false:=(by rw [oE];exact y);clear eO aR l;go_wp2;go_ret;exact⟨rfl,Mh.o,nV.o⟩
  .rw [aB y];go_in;go_wp2_with fail;refine m.mono ?_;rintro e w1 ⟨Q,U,rfl,BV,uQ,hd,c⟩;obtain⟨a1,i,rfl,gV,_⟩:=BV;obtain⟨a2,k,rfl,dQ,_⟩:=uQ;have d:=g a1 _ i a2 _ k w1 gV dQ;have cO:=uX t.o c;have r:=yh (D.o.trans c (λ_ h=> .inl h));have q:=yh hd;have u:=yh cO;clear m gV dQ hd c g cO;go_wp2_with fail;refine d.mono ?_;rintro e W ⟨v,rfl,⟨A,C,rfl,o7,_,_⟩,b⟩;have dS:=q.o.ak (ad.ag (λ_=>False) b) (λ_ _ h=>h);have k8:=yh (r.o.trans (ad.ag (λ_=>False) b) (λ_ h=>h.elim));have cO:=(b.block _ (af u.o)).trans u.o;have KU:=aL cO;have kZ:=bY cO;have l:=sj dS ((f:Int)+(K:Int)) A _ C L o7 (by simpa [DS.read] using (show S.puts.length+1<=4000000000000 by omega));rw [a] at l;have mI:=yh cO;clear d b dS o7 cO;rw [a];go_wp2_with fail;refine j8 l λw3 eO aR=>?_;have nV:=yh (k8.o.trans aR (λ_ h=> .inl h));rw [<-H.o] at eO⊢;have O:=yY eO (by have:=jL S.read.read s ((f:Int)+(K:Int)) 512 L;rw [<-H.o] at this;simp only [DS.read] at this;omega);have cO:=(aR.block _ (af mI.o) (λh=>by have:=t.o _ h;omega)).trans mI.o;have KU:=aL cO;have abt:=yh aR;have z:Y.1=0:=(by simpa using y);rw [z];clear eO aR l cO y z;go_wp2_with fail;refine j8 O λw4 tQ dF=>?_;obtain⟨KX,G⟩:=eA (nV.o.trans dF (λj h=>h.elim .inl (λh=> .inr (xv k8.o.size h.1)))) (uZ t.o k8.o abt.o dF.size tQ);clear tQ dF O;go_wp2;go_ret;exact⟨rfl,G.o,KX.o⟩
def Mi (i A X:Nat) (c:A<2 ^ i) (h:A+2 ^ i*X<9223372036854775808):
  bits .or .i64 (A:Int) ((2 ^ i*X:Nat):Int)=((A+2 ^ i*X:Nat):Int):=by
 have q:∀z:Nat,z<18446744073709551616->(BitVec.ofInt 64 (z:Int)).toNat=z:=by
  intro z d;rw [BitVec.toNat_ofInt];omega
 have a:A<18446744073709551616:=by omega
 have b:2 ^ i*X<18446744073709551616:=by omega
 show IntKind.i64.wrap ((BitVec.ofInt 64 (A:Int) |||BitVec.ofInt 64 ((2 ^ i*X:Nat):Int)).toNat:Int)=_;rw [BitVec.toNat_or,q A a,q _ b,Nat.or_comm,<-Nat.two_pow_add_eq_or_of_lt c X,Nat.add_comm];generalize A+2 ^ i*X=Z at*;rw [IntKind.wrap_i64];omega
def xN (a:Bytes l) (h:l.length<=4):le l<9223372036854775808:=by
 have:=ld a;exact wu this (by have:=Nat.pow_le_pow_right (show 0<2 by omega) (show 8*l.length<=32 by omega);omega)
def qR (g o k c N:Nat) (T:TypeId) (l:List Int) (w:World) (d:gA w T g l) (q:k<=8) (r:o+k<=l.length):
  Calls prog 207 #[.slice (some (aD g o)) k c,iV (N:Int)] w λe w'=>e= .returned (.tuple #[])/\gA w' T g (put l o (br k N))/\ad (λj=>j=g) w w'/\w'.heap.size=w.heap.size:=by
 go_in;go_wp2;go_loopw [7] (λi wr=>∃j:Nat,j<=k/\i=iV j/\gA wr T g (put l o (br j N))/\ad (λj=>j=g) w wr/\wr.heap.size=w.heap.size) (λi _=>k-(intOf i).toNat);case atStart=>exact⟨0,iq _,rfl,by rw [br,zD];exact d,ad.refl _ _,rfl⟩
 case round=>
  obtain⟨j,n,rfl,aA,pq,fy⟩:=hrel;by_cases aS:j<k
  .have cH:(j:Int)<(k:Int):=(by omega);have a:=aP j N;have tP:=GI (l:=l) (xs:=br j N) (o:=o) (by omega);have f:=aA.cell (i:=o+j) (by omega);have m:=aA.frozen (o+j);have jf:=aA.set (o+j) ((N / 2 ^ (8*j)%256:Nat):Int);have e:=Bu (l:=l) (xs:=br j N) (o:=o) (by omega) ((N / 2 ^ (8*j)%256:Nat):Int);rw [a] at e;rw [e,<-qL] at jf;have b:=(pq.trans (ad.setCell (F:=λj=>j=g) (p:=⟨g,o+j,none⟩) wr rfl (.int .u8 ((N / 2 ^ (8*j)%256:Nat):Int))) (λ_ h=> .inl h));go_wp2;go_roundw;case rel=>exact⟨j+1,by omega,by go_num,jf,b,by simpa [World.setCell] using fy⟩
   case measure=>simp [intOf];omega
  .have cH:¬(j:Int)<(k:Int):=(by omega);obtain rfl:j=k:=(by omega);go_wp2
   go_end0
   exact⟨rfl,aA,pq,fy⟩
def mJ (b o n c:Nat) (l:List Int) (w:World) (d:Bytes l) (u:l.length=n) (v:n<=4) (g:∀i,i<n->w.cell? ⟨b,o+i,none⟩=some (.int .u8 (l.getD i 0))):
  Calls prog 189 #[.slice (some (aD b o)) n c] w λe w'=>e= .returned (iV ((le l:Nat):Int))/\w'=w:=by
 have m:=yh g;clear g;go_in;go_wp2;go_loopw [3,8] (λr i wr=>∃j:Nat,j<=n/\i=iV j/\wr=w/\r=iV ((le (l.take j):Nat):Int)) (λ_ i _=>n-(intOf i).toNat);case atStart=>exact⟨0,iq _,rfl,rfl,by simp [le]⟩
 case round=>
  obtain⟨j,t,rfl,rfl,rfl⟩:=hrel;by_cases aS:j<n
  .have cH:(j:Int)<(n:Int):=(by omega);have q:=m.o j aS;obtain⟨x,s,dj⟩:∃x:Nat,l.getD j 0=(x:Int)/\x<256:=by
    have:=d.getD j;exact⟨(l.getD j 0).toNat,by omega,by omega⟩
   have fP:=mx (l:=l) (k:=j) (by omega);have f:le (l.take j)<2 ^ (8*j):=by
    have:=ld (d.take j);have e:(l.take j).length=j:=(by simp;omega);rwa [e] at this
   have a:le (l.take (j+1))<9223372036854775808:=xN (d.take _) (by simp;omega);rw [s] at q fP;simp only [t7] at fP;rw [fP] at a;have IU:=Mi (8*j) _ x f a;rw [<-fP] at IU;have SZ:((x:Int)*2 ^ (8*j))=((2 ^ (8*j)*x:Nat):Int):=(by rw [Int.natCast_mul,Int.natCast_pow,Int.mul_comm];rfl);have r8:((2 ^ (8*j)*x:Nat):Int)<9223372036854775808:=(by omega);generalize 2 ^ (8*j)*x=Y at*;generalize le (l.take j)=A at*;clear f a fP;go_wp2;go_roundw;case rel=>exact⟨j+1,by omega,by go_num,trivial,by rw [<-(yh IU).out]⟩
   case measure=>simp [intOf];omega
  .have cH:¬(j:Int)<(n:Int):=(by omega);have p:l.take j=l:=wl (by omega);rw [p] at*;go_wp2;go_ret;exact⟨rfl,rfl⟩
structure PC where
 e:Nat
 p:Nat
 i:Nat
 c:Nat
 d:List Int
def PC.zero:PC:=⟨0,0,0,0, []⟩
def iO (b:List Int):PC:=⟨le (b.take 4),le ((b.drop 4).take 4),le ((b.drop 8).take 2),le ((b.drop 10).take 2),b.drop 12⟩
def jM (l:List Int):PC:=if (bZ l).2≠0\/(bZ l).1.length<12 then PC.zero else iO (bZ l).1
def PC.ok (q:PC) (E P i c:Nat):Prop:=q.e=E/\q.p=P/\q.i=i/\q.c=c/\0<q.d.length/\(i+1≠c->q.d.length=492)
def nW (R:Nat->PC) (P k:Nat):List Int:=(List.range k).flatMap (λi=>(R (P+i)).d)
def tg (R:Nat->PC) (P:Nat):nW R P 0= []:=rfl
def lA (R:Nat->PC) (P k:Nat):nW R P (k+1)=nW R P k ++ (R (P+k)).d:=by simp [nW,List.range_succ]
def Rec (R:Nat->PC) (E P c:Nat) (d:List Int):Prop:=1<=c/\c<=17/\(∀i,i<c->(R (P+i)).ok E (P+i) i c)/\d=nW R P c
def Rec.count {R:Nat->PC} (h:Rec R E P c d):(R P).c=c:=by
 have:=(h.2.2.1 0 h.1).2.2.2.1;simpa using this
def Rec.unique {R:Nat->PC} {c':Nat} {d':List Int} (h:Rec R E P c d) (a:Rec R E P c' d'):c=c'/\d=d':=by
 have e:=h.count.symm.trans a.count;subst e;exact⟨rfl,h.2.2.2.trans a.2.2.2.symm⟩
def dI (R:Nat->PC) (E:Nat):Nat->List (List Int)->Nat->Prop
 |P, [],h=>h=P
 |P,d :: ds,h=>∃c,Rec R E P c d/\dI R E (P+c) ds h
def dI.snoc {R:Nat->PC} {E:Nat}:∀{rs:List (List Int)} {P h c:Nat} {d:List Int},dI R E P rs h->Rec R E h c d->dI R E P (rs ++ [d]) (h+c)
 | [],P,h,c,d,a,hr=>by
  have a:h=P:=a;subst a;exact⟨c,hr,rfl⟩
 |x :: xs,P,h,c,d,⟨k,hk,a⟩,hr=>⟨k,hk,dI.snoc a hr⟩
def dI.unique {R:Nat->PC} {E:Nat}:∀{rs O6:List (List Int)} {P h e:Nat},dI R E P rs h->(∀c d,¬Rec R E h c d)->dI R E P O6 e->(∀c d,¬Rec R E e c d)->rs=O6/\h=e
 | [], [],P,h,e,a,_,b,_=>⟨rfl,(show h=P from a).trans (show e=P from b).symm⟩
 | [],x :: xs,P,h,e,a,hn,⟨k,hk,_⟩,_=>by
  have a:h=P:=a;subst a;exact absurd hk (hn _ _)
 |x :: xs, [],P,h,e,⟨k,hk,_⟩,_,b,hn=>by
  have b:e=P:=b;subst b;exact absurd hk (hn _ _)
 |x :: xs,y :: ys,P,h,e,⟨k,hk,ht⟩,hn,⟨k',Lu,ht'⟩,ZO=>by
  obtain⟨rfl,rfl⟩:=hk.unique Lu;obtain⟨rfl,rfl⟩:=dI.unique ht hn ht' ZO;exact⟨rfl,rfl⟩
def dI.le {R:Nat->PC} {E:Nat}:∀{rs:List (List Int)} {P h:Nat},dI R E P rs h->P<=h
 | [],P,h,a=>Nat.le_of_eq (show h=P from a).symm
 |x :: xs,P,h,⟨k,hk,ht⟩=>by have:=dI.le ht;omega
def Rec.at {R:Nat->PC} (h:Rec R E P c d) {q:Nat} (a:P<=q) (b:q<P+c):(R q).p=q:=by
 have:=(h.2.2.1 (q-P) (by omega)).2.1;rwa [show P+(q-P)=q by omega] at this
def dI.at {R:Nat->PC} {E:Nat}:∀{rs:List (List Int)} {P h:Nat},dI R E P rs h->∀q,P<=q->q<h->(R q).p=q
 | [],P,h,a,q,h1,h2=>by have a:h=P:=a;omega
 |x :: xs,P,h,⟨k,hk,ht⟩,q,h1,h2=>by
  by_cases b:q<P+k
  .exact hk.at h1 b
  .exact dI.at ht q (by omega) h2
def dI.round {R:Nat->PC} (f:1<=n) (e:∀q,R (q+n)=R q) (d:dI R E P rs h):h<=P+n:=by
 rcases Nat.lt_or_ge (P+n) h with c|c
 .have a:=d.at P (di _) (by omega);have b:=d.at (P+n) (by omega) c;rw [e] at b;omega
 .exact c
def dI.length {R:Nat->PC} {E:Nat}:∀{rs:List (List Int)} {P h:Nat},dI R E P rs h->P+rs.length<=h
 | [],P,h,a=>Nat.le_of_eq (show h=P from a).symm
 |x :: xs,P,h,⟨k,hk,ht⟩=>by have:=dI.length ht;have:=hk.1;simp only [List.length_cons];omega
structure Scan (R:Nat->PC) (E T:Nat) (rs:List (List Int)) (h j c:Nat) (d:List Int):Prop where
 t:dI R E T rs h
 p:∀i,i<j->(R (h+i)).ok E (h+i) i c
 c:0<j->1<=c/\c<=17/\j<c
 d:d=nW R h j
def Scan.start (R:Nat->PC) (E T:Nat) (c:Nat):Scan R E T [] T 0 c []:=⟨rfl,λi hi=>by omega,λh=>by omega,rfl⟩
def l7 (R:Nat->PC) (h j c:Nat):Nat:=if j=0 then (R h).c else c
def Scan.grow {R:Nat->PC} {T:Nat} (s:Scan R E T rs h j c d) (f:(R (h+j)).ok E (h+j) j (l7 R h j c)) (a:1<=l7 R h j c) (b:l7 R h j c<=17) (k:j+1≠l7 R h j c) (g:j<l7 R h j c):
  Scan R E T rs h (j+1) (l7 R h j c) (d ++ (R (h+j)).d):=by
 refine⟨s.t,λi hi=>?_,λ_=>⟨a,b,by omega⟩,by rw [s.d,lA]⟩;by_cases e:i=j
 .subst e;exact f
 .have P5:j≠0:=by omega
  have:=s.p i (by omega);rwa [l7,aB P5]
def Scan.full {R:Nat->PC} {T:Nat} (s:Scan R E T rs h j c d) (b:(R (h+j)).ok E (h+j) j (l7 R h j c)) (g:l7 R h j c<=17) (a:j+1=l7 R h j c) (c':Nat):
  Scan R E T (rs ++ [d ++ (R (h+j)).d]) (h+j+1) 0 c' []:=by
 refine⟨?_,λi hi=>by omega,λh=>by omega,rfl⟩;have f:Rec R E h (j+1) (d ++ (R (h+j)).d):=by
  refine⟨by omega,by omega,λi hi=>?_,by rw [s.d,lA]⟩;by_cases e:i=j
  .subst e;rw [a];exact b
  .have:=s.p i (by omega);have P5:j≠0:=(by omega);rw [a,l7,aB P5];exact this
 exact s.t.snoc f
def Scan.ends {R:Nat->PC} {T:Nat} (s:Scan R E T rs h j c d) (b:¬((R (h+j)).ok E (h+j) j (l7 R h j c)/\1<=l7 R h j c/\l7 R h j c<=17)):∀c d,¬Rec R E h c d:=by
 intro k x a;by_cases e:j=0
 .subst e;refine b ?_;rw [l7,aN rfl,a.count];exact⟨a.2.2.1 0 a.1,a.1,a.2.1⟩
 .have g:=s.c (by omega);have f:k=c:=by rw [<-a.count];simpa using (s.p 0 (by omega)).2.2.2.1
  subst f;refine b ?_;rw [l7,aB e];exact⟨a.2.2.1 j g.2.2,a.1,a.2.1⟩
def Scan.at {R:Nat->PC} {T:Nat} (s:Scan R E T rs h j c d) (q:Nat) (a:T<=q) (e:q<h+j):(R q).p=q:=by
 by_cases b:q<h
 .exact s.t.at q a b
 .have:=(s.p (q-h) (by omega)).2.1;rwa [show h+(q-h)=q by omega] at this
def Scan.round {R:Nat->PC} {T:Nat} (g:1<=n) (b:∀q,R (q+n)=R q) (s:Scan R E T rs h j c d) (e:h+j=T+n):∀c d,¬Rec R E h c d:=by
 refine s.ends (λf=>?_);have a:=f.1.2.1;rw [e,b] at a;have:=s.at T (di _) (by omega);omega
def jz (R:Nat->PC):Nat->Nat
 |0=>0
 |k+1=>if (R k).e<=1073741824 then max (jz R k) (R k).e else jz R k
def zU (R:Nat->PC):∀k,jz R k<=1073741824
 |0=>by simp [jz]
 |k+1=>by
  have:=zU R k;unfold jz;split <;> omega
def GX (a:Bytes l) (h:l.length<=k):le l<2 ^ (8*k):=wu (ld a) (Nat.pow_le_pow_right (by omega) (by omega))
def GY (a:Bytes l) (h:l.length<=2):le l<65536:=GX a (k:=2) h
def GZ (a:Bytes l) (h:l.length<=4):le l<4294967296:=GX a (k:=4) h
def BW (a:Bytes l):Bytes (bZ l).1:=by
 unfold bZ;split
 .exact Bytes.nil
 .split
  .exact Bytes.nil
  .rename_i b h;rw [(uG h).2.2.2];exact(a.drop 7).take _
def Tt (l:List Int):(bZ l).1.length<=504:=by
 unfold bZ;split
 .simp
 .split
  .simp
  .rename_i a b h;exact IQ h (by omega)
def pX (b:Bytes l):(jM l).e<4294967296/\(jM l).p<4294967296/\(jM l).i<65536/\(jM l).c<65536/\(jM l).d.length<=492/\Bytes (jM l).d:=by
 have a:=BW b;have f:=Tt l;unfold jM;split
 .exact⟨by decide,by decide,by decide,by decide,by decide,Bytes.nil⟩
 .exact⟨GZ (a.take _) (by simp;omega),GZ ((a.drop _).take _) (by simp;omega),GY ((a.drop _).take _) (by simp;omega),GY ((a.drop _).take _) (by simp;omega),by simp [iO];omega,a.drop _⟩
section
def DS.pY (S:DS) (r:Int):DS:={S with reads:=r}
def aj (w:World) (F:Nat->Prop) (p s:Nat) (S:DS):Prop:=∃r,aI w F p s (S.pY r)
section
variable {w w':World} {F G:Nat->Prop} {p s:Nat} {S:DS}
def aj.ok (h:aj w F p s S):S.Ok s:=by
 obtain⟨r,h⟩:=h;exact⟨h.ok.len,h.ok.lo,h.ok.hi,h.ok.puts,h.ok.fuse⟩
def aj.lt (h:aj w F p s S):∀k,F k->k<w.heap.size:=by obtain⟨r,h⟩:=h;exact h.lt
def aj.ak (h:aj w F p s S) (k:ad G w w') (hd:∀k,F k->¬G k):aj w' F p s S:=by obtain⟨r,h⟩:=h;exact⟨r,h.ak k hd⟩
def aj.later (h:aj w F p s S) (a:bW w w'):aj w' F p s S:=h.ak (ad.ag (λ_=>False) a) (λ_ _ h=>h)
def Mj (S:DS) (r:Int) (s:Nat) (x:Int) (n:Nat) (l:List Int):(S.pY r).wr s x n l=((S.wr s x n l).1,(S.wr s x n l).2.pY r):=by
 unfold DS.wr;show (if S.fuse=0 then _ else _)=_;split
 .rfl
 .split
  .rfl
  .split <;> rfl
def Mk (S:DS) (r:Int) (s:Nat):(S.pY r).fl s=((S.fl s).1,(S.fl s).2.pY r):=by
 unfold DS.fl;show (if S.fuse=0 then _ else _)=_;split <;> rfl
def Qf (S:DS) (r:Int) (k:Nat):(S.pY r).now k=S.now k:=rfl
def nX (h:aj w F p s S):Calls prog 46 #[pQ p] w λe w'=>e= .returned (iV s)/\w'=w:=by
 obtain⟨r,h⟩:=h;exact uy h
def zV (h:aj w F p s S):Calls prog 44 #[pQ p] w λe w'=>e= .returned (.bool (S.fuse == 0))/\w'=w:=by
 obtain⟨r,h⟩:=h;exact fM (S:=S.pY r) h
def WL (h:aj w F p s S):Calls prog 142 #[pQ p] w λe w'=>e= .returned (iV S.life)/\w'=w:=by
 obtain⟨r,h⟩:=h;exact PI (S:=S.pY r) h
def mK (h:aj w F p s S) (x:Int) (a:S.fuse=0):Calls prog 102 #[pQ p,iV x] w λe w'=>e= .returned (.tuple #[.slice none 0 0,iV 3])/\w'=w:=by
 obtain⟨r,h⟩:=h;exact xz h x a
def cw (S:DS) (s f:Nat) (num:Int):Int×DS:=
 if S.fuse=0 then (3,S) else
 if (aW (S.now f) (S.now (f+1)) num []).2.2≠0 then (((aW (S.now f) (S.now (f+1)) num []).2.2:Int),S) else
 if (S.wr s ((f:Int)+((aW (S.now f) (S.now (f+1)) num []).1:Int)) 512 (aW (S.now f) (S.now (f+1)) num []).2.1).1≠0 then S.wr s ((f:Int)+((aW (S.now f) (S.now (f+1)) num []).1:Int)) 512 (aW (S.now f) (S.now (f+1)) num []).2.1
 else (S.wr s ((f:Int)+((aW (S.now f) (S.now (f+1)) num []).1:Int)) 512 (aW (S.now f) (S.now (f+1)) num []).2.1).2.fl s
def qS (h:aj w F p s S) (f n:Int):Calls prog 94 #[jg p f n] w λe w'=>e= .returned (iV (cP S s f n))/\bW w w':=by
 have a:=h.ok.hi;obtain⟨r,h⟩:=h;exact BF h f n a
end
end
end Go.Proofs.YtkiehemoiapkkaaGreat
