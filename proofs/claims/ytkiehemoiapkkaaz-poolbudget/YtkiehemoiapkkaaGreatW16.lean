import Derived.Test.YtkiehemoiapkkaaGreatW01
import Derived.Test.YtkiehemoiapkkaaGreatW03
import Derived.Test.YtkiehemoiapkkaaGreatW07
import Derived.Test.YtkiehemoiapkkaaGreatW15
import Derived.RegionTactic
import Derived.Deep.RegionHeld
import Derived.Deep.RegionLaw
import Derived.BigRegion
section
namespace Go.Proofs.YtkiehemoiapkkaaGreat
open Go.RowKit
def left01:List Bool→Nat
 | []=>0
 |b :: bs=>(if b then 0 else 1)+left01 bs
theorem left01_zero:∀{l:List Bool},left01 l=0→∀(i:Nat),i<l.length→l.getD i false=true
 |b :: bs,h,0,_=>by
  cases b
  ·simp [left01] at h
  ·rfl
 |b :: bs,h,i+1,hi=>by
  have h1:left01 bs=0:=by unfold left01 at h;omega
  have:=left01_zero h1 i (by simpa using hi)
  simpa [List.getD] using this
theorem left01_set:∀{l:List Bool} {i:Nat},i<l.length→l.getD i false=false→left01 (l.set i true)+1=left01 l
 |b :: bs,0,_,h=>by
  have hb:b=false:=by simpa [List.getD] using h
  subst hb
  simp only [List.set_cons_zero,left01]
  simp
  omega
 |b :: bs,i+1,hi,h=>by
  have h1:=left01_set (l:=bs) (i:=i) (by simpa using hi) (by simpa [List.getD] using h)
  simp only [List.set_cons_succ,left01]
  omega
theorem getD_list (L:Array Bool) (i:Nat) (d:Bool):L.getD i d=L.toList.getD i d:=by
 simp [Array.getD_eq_getD_getElem?,List.getD]
section
variable {P:Program} {ops:Array Oper} {Q:Exit→Act→World→Prop}
theorem wpAny_inv (J:Array Bool→Act→World→Prop)
    (hstep:∀i o,ops[i]? =some o→∀L a w,J L a w→i<L.size→L.getD i false=false→(∀e∈o.after,Region.binds .any e=true→L.getD e.on false=true)→∀K':Act→World→Prop,Shut (∀a w,J (L.setIfInBounds i true) a w→K' a w)→if Region.wanted o (yielded ops a.tmps)=true then Oper.wp P o a w K' Q else K' (a.put o.dst undef) w)
    (hend:∀L a w,J L a w→(∀i,i<L.size→L.getD i false=true)→Q .normal a w)
    (hacy:∀i o,ops[i]? =some o→∀e∈o.after,Region.binds .any e=true→e.on<i):
  ∀(fuel:Nat) (L:Array Bool) (a:Act) (w:World),L.size=ops.size→left01 L.toList=fuel→J L a w→wpAny P .any ops Q fuel L a w:=by
 have mem:∀(L:Array Bool) (i:Nat),i∈Region.ready .any ops L↔(i<ops.size∧L.getD i true=false∧∃o,ops[i]? =some o∧∀e∈o.after,Region.binds .any e=true→L.getD e.on false=true):=by
  intro L i
  unfold Region.ready
  rw [List.mem_filter,List.mem_range]
  constructor
  ·rintro ⟨h1,h2⟩
   rw [Bool.and_eq_true] at h2
   obtain⟨h2,h3⟩:=h2
   have ho:ops[i]? =some ops[i]:=Array.getElem?_eq_getElem h1
   rw [ho] at h3
   refine⟨h1,by simpa using h2,_,ho,fun e he hb=>?_⟩
   simp only [Option.map_some,Option.getD_some,Array.all_eq_true_iff_forall_mem] at h3
   have:=h3 e he
   rw [hb] at this
   simpa using this
  ·rintro ⟨h1,h2,o,ho,h3⟩
   refine⟨h1,?_⟩
   rw [Bool.and_eq_true]
   refine⟨by simp [h2],?_⟩
   rw [ho]
   simp only [Option.map_some,Option.getD_some,Array.all_eq_true_iff_forall_mem]
   intro e he
   cases hb:Region.binds .any e
   ·rfl
   ·simpa using h3 e he hb
 have all:∀(L:Array Bool),L.size=ops.size→Region.ready .any ops L= []→∀i,i<L.size→L.getD i false=true:=by
  intro L hL hr i
  induction i using Nat.strongRecOn with
  |_ i ih=>
   intro hi
   cases hb:L.getD i false with
   |true=>rfl
   |false=>
    exfalso
    have ho:ops[i]? =some (ops[i]'(by omega)):=Array.getElem?_eq_getElem (by omega)
    have ht:L.getD i true=false:=by
     rw [Array.getD_eq_getD_getElem?,Array.getElem?_eq_getElem hi] at hb⊢
     exact hb
    have:i∈Region.ready .any ops L:=(mem L i).2 ⟨by omega,ht,_,ho,fun e he hbd=>ih e.on (hacy i _ ho e he hbd) (by have:=hacy i _ ho e he hbd;omega)⟩
    rw [hr] at this
    cases this
 intro fuel
 induction fuel with
 |zero=>
  intro L a w hL hf hJ
  have h1:∀i,i<L.size→L.getD i false=true:=fun i hi=>by
   rw [getD_list]
   exact left01_zero hf i (by simpa using hi)
  refine⟨?_,hend L a w hJ h1⟩
  cases hr:Region.ready .any ops L with
  |nil=>rfl
  |cons x xs=>
   exfalso
   obtain⟨m1,m2,_⟩:=(mem L x).1 (by rw [hr];exact List.mem_cons_self ..)
   have:=h1 x (by omega)
   rw [Array.getD_eq_getD_getElem?,Array.getElem?_eq_getElem (by omega:x<L.size)] at m2 this
   simp at m2 this
   rw [this] at m2
   cases m2
 |succ fuel ih=>
  intro L a w hL hf hJ
  refine⟨fun hr=>hend L a w hJ (all L hL hr),fun i hi=>?_⟩
  obtain⟨m1,m2,o,ho,m3⟩:=(mem L i).1 hi
  have hlt:i<L.size:=by omega
  have hfl:L.getD i false=false:=by
   rw [Array.getD_eq_getD_getElem?,Array.getElem?_eq_getElem hlt] at m2⊢
   exact m2
  refine wpOp_step ho (fun K' hK=>hstep i o ho L a w hJ hlt hfl m3 K' (fun a' w' hJ'=>hK a' w' (ih _ a' w' (by simpa using hL) ?_ hJ')))
  have:=left01_set (l:=L.toList) (i:=i) (by simpa using hlt) (by rw [←getD_list];exact hfl)
  rw [Array.toList_setIfInBounds]
  omega
theorem left01_rep:∀n,left01 (List.replicate n false)=n
 |0=>rfl
 |n+1=>by
  rw [List.replicate_succ]
  simp only [left01,left01_rep n]
  simp
  omega
theorem wp_region_inv {id:Nat} {a:Act} {w:World} (hm:P.follows .mixedOrders=true) (J:Array Bool→Act→World→Prop) (h0:J (Array.replicate ops.size false) a w.drew)
    (hstep:∀i o,ops[i]? =some o→∀L a w,J L a w→i<L.size→L.getD i false=false→(∀e∈o.after,Region.binds .any e=true→L.getD e.on false=true)→∀K':Act→World→Prop,Shut (∀a w,J (L.setIfInBounds i true) a w→K' a w)→if Region.wanted o (yielded ops a.tmps)=true then Oper.wp P o a w K' Q else K' (a.put o.dst undef) w)
    (hend:∀L a w,J L a w→(∀i,i<L.size→L.getD i false=true)→Q .normal a w)
    (hacy:∀i o,ops[i]? =some o→∀e∈o.after,Region.binds .any e=true→e.on<i):(Code.region id ops true).wp P Q a w:=
 wp_region_any hm (wpAny_inv J hstep hend hacy ops.size _ a _ (by simp) (by rw [Array.toList_replicate];exact left01_rep _) h0)
end
end Go.Proofs.YtkiehemoiapkkaaGreat
end
section
namespace Go.Proofs.YtkiehemoiapkkaaGreat
open Go.RowKit Go.Maps
def acyB (ops:Array Oper):Bool:=(List.range ops.size).all fun i=>((ops[i]?).map (·.after.all fun e=> !Region.binds .any e || decide (e.on<i))).getD true
theorem acy_of {ops:Array Oper} (h:acyB ops=true):∀i o,ops[i]? =some o→∀e∈o.after,Region.binds .any e=true→e.on<i:=by
 intro i o ho e he hb
 unfold acyB at h
 rw [List.all_eq_true] at h
 have h1:=h i (List.mem_range.2 (Array.getElem?_eq_some_iff.1 ho).1)
 rw [ho] at h1
 simp only [Option.map_some,Option.getD_some,Array.all_eq_true_iff_forall_mem] at h1
 have:=h1 e he
 rw [hb] at this
 simpa using this
theorem setg {L:Array Bool} {i:Nat} (h:i<L.size) (j:Nat):(L.setIfInBounds i true).getD j false=if j=i then true else L.getD j false:=by
 simp only [Array.getD_eq_getD_getElem?]
 by_cases e:j=i
 ·subst e
  rw [Array.getElem?_setIfInBounds_self_of_lt h,if_pos rfl]
  rfl
 ·rw [Array.getElem?_setIfInBounds_ne (fun h=>e h.symm),if_neg e]
section
variable {w:World} {F:Nat→Prop} {p s cR q l m t n a:Nat} {S:DS} {G:SG} {T:TG}
structure CW (w0 w:World) (B:Nat) (F:Nat→Prop) (p s cR q l m t n a:Nat) (S:DS) (G:SG) (T:TG):Prop where
 x:TX w F p s cR q l m t n S G T
 p:PoolAt w F a t n
 b1:w.heap[B]? =some (.cells #[.pointer (some ⟨a,0,none⟩)] 35 (0,0))
 b2:w.heap[B+1]? =some (.cells #[.int .i64 0] 39 (0,0))
 lo:Below w0.heap.size w0 w
 lx:TXlt w0.heap.size F q l m t n
 la:a<w0.heap.size
 lb:B+1<w0.heap.size
theorem CW.later {w0 w w':World} {B:Nat} (h:CW w0 w B F p s cR q l m t n a S G T) (hb:Below w.heap.size w w'):CW w0 w' B F p s cR q l m t n a S G T:=
   ⟨h.x.later hb,h.p.later hb,(hb.block _ (lt_there h.b1)).trans h.b1,(hb.block _ (lt_there h.b2)).trans h.b2,h.lo.trans (hb.mono h.lo.size),h.lx,h.la,h.lb⟩
theorem CW.side {w0 w w':World} {B g:Nat} (h:CW w0 w B F p s cR q l m t n a S G T) (hg:w0.heap.size≤g) (hk:Keeps (fun k=>k=g) w w'):CW w0 w' B F p s cR q l m t n a S G T:=by
 have h1:=h.la
 have h2:=h.lb
 exact⟨h.x.side h.lx hk (fun k e=>by omega),⟨(hk.block a h.p.lt (by omega)).trans h.p.b,h.p.nf⟩,(hk.block _ (lt_there h.b1) (by omega)).trans h.b1,(hk.block _ (lt_there h.b2) (by omega)).trans h.b2,h.lo.trans (hk.below (fun k e=>by omega) h.lo.size),h.lx,h.la,h.lb⟩
def SBx (w0 w:World) (x:Value) (c:Array Value):Prop:=∃g,x= .pointer (some ⟨g,0,none⟩)∧w0.heap.size≤g∧w.heap[g]? =some (.cells c 61 (0,0))
theorem SBx.later {w0 w w':World} {x:Value} {c:Array Value} (h:SBx w0 w x c) (hb:Below w.heap.size w w'):SBx w0 w' x c:=by
 obtain⟨g,e,h1,h2⟩:=h
 exact⟨g,e,h1,(hb.block _ (lt_there h2)).trans h2⟩
theorem SBx.far {w0 w w':World} {x y:Value} {c:Array Value} {g:Nat} (h:SBx w0 w x c) (hy:y= .pointer (some ⟨g,0,none⟩)) (hn:x≠y) (hk:Keeps (fun k=>k=g) w w'):SBx w0 w' x c:=by
 obtain⟨g',e,h1,h2⟩:=h
 refine⟨g',e,h1,(hk.block _ (lt_there h2) (fun e'=>hn ?_)).trans h2⟩
 rw [e,hy,e']
theorem setFive {w:World} {g:Nat} {E:TypeId} {a b c d e a' b' c' d' e':Value} (h:w.heap[g]? =some (.cells #[a,b,c,d,e] E (0,0))):(w.setCells g 0 [a',b',c',d',e']).heap[g]? =some (.cells #[a',b',c',d',e'] E (0,0)):=by
 exact set5 a' b' c' d' e' h
def JC (w0:World) (w:World) (F:Nat→Prop) (p s cR q l m t n a:Nat) (S:DS) (G:SG) (T:TG) (f:Nat→Bool) (A:Act) (w':World):Prop:=
 ∃x3 x4 x6 x7 x8 x9:Value,A={tmps:= #[.pointer (some ⟨a,0,none⟩), .pointer (some ⟨w.heap.size,0,none⟩), .pointer (some ⟨w.heap.size+1,0,none⟩),x3,x4, .func (.func 22) #[] #[.pointer (some ⟨w.heap.size,0,none⟩), .pointer (some ⟨w.heap.size+1,0,none⟩)],x6,x7,x8,x9,undef,undef,undef,undef,undef,undef,undef,undef,undef,undef],defers:= [{target:= .fn (.func 22) #[.pointer (some ⟨w.heap.size,0,none⟩), .pointer (some ⟨w.heap.size+1,0,none⟩)],args:= #[]}]}∧CW w0 w' w.heap.size F p s cR q l m t n a S G T∧(f 0=true→x6= .pointer (some ⟨a,0,none⟩))∧(f 1=true→x7=stkV (bSt G.y))∧(f 2=true→x8= .pointer (some ⟨a,0,none⟩))∧(f 3=true→x9=stkV (nSt G.y))∧(f 4=true→SBx w0 w' x3 (if f 6=true then #[.int .i64 ((bSt G.y).bm:Int), .int .i64 ((bSt G.y).zero:Int), .int .i64 ((bSt G.y).first:Int), .int .i64 (((bSt G.y).first:Int)+((bSt G.y).cnt:Int)-1), .int .i64 (bSt G.y).no] else #[.int .i64 0, .int .i64 0, .int .i64 0, .int .i64 0, .int .i64 0]))∧(f 5=true→SBx w0 w' x4 (if f 7=true then #[.int .i64 ((nSt G.y).bm:Int), .int .i64 ((nSt G.y).zero:Int), .int .i64 ((nSt G.y).first:Int), .int .i64 (((nSt G.y).first:Int)+((nSt G.y).cnt:Int)-1), .int .i64 (nSt G.y).no] else #[.int .i64 0, .int .i64 0, .int .i64 0, .int .i64 0, .int .i64 0]))∧(f 4=true→f 5=true→x3≠x4)∧(f 6=true→f 4=true)∧(f 7=true→f 5=true)
set_option maxRecDepth 20000 in
set_option maxHeartbeats 8000000 in
theorem clear_r2 {w0:World} {Q:Exit→Act→World→Prop} {v3 v4 v6 v7 v8 v9:Value} {w1:World} (hw:w1.drew=w0) (hC:CW w0 w0 w.heap.size F p s cR q l m t n a S G T)
    (hQ:∀g3 g4 w',CW w0 w' w.heap.size F p s cR q l m t n a S G T→w0.heap.size≤g3→w0.heap.size≤g4→g3≠g4→w'.heap[g3]? =some (.cells #[.int .i64 ((bSt G.y).bm:Int), .int .i64 ((bSt G.y).zero:Int), .int .i64 ((bSt G.y).first:Int), .int .i64 (((bSt G.y).first:Int)+((bSt G.y).cnt:Int)-1), .int .i64 (bSt G.y).no] 61 (0,0))→w'.heap[g4]? =some (.cells #[.int .i64 ((nSt G.y).bm:Int), .int .i64 ((nSt G.y).zero:Int), .int .i64 ((nSt G.y).first:Int), .int .i64 (((nSt G.y).first:Int)+((nSt G.y).cnt:Int)-1), .int .i64 (nSt G.y).no] 61 (0,0))→Q .normal {tmps:= #[.pointer (some ⟨a,0,none⟩), .pointer (some ⟨w.heap.size,0,none⟩), .pointer (some ⟨w.heap.size+1,0,none⟩),(.pointer (some ⟨g3,0,none⟩)),(.pointer (some ⟨g4,0,none⟩)), .func (.func 22) #[] #[.pointer (some ⟨w.heap.size,0,none⟩), .pointer (some ⟨w.heap.size+1,0,none⟩)], .pointer (some ⟨a,0,none⟩),(stkV (bSt G.y)), .pointer (some ⟨a,0,none⟩),(stkV (nSt G.y)),undef,undef,undef,undef,undef,undef,undef,undef,undef,undef],defers:= [{target:= .fn (.func 22) #[.pointer (some ⟨w.heap.size,0,none⟩), .pointer (some ⟨w.heap.size+1,0,none⟩)],args:= #[]}]} w'):
    (Code.region 2 #[{dst:=some 6,op:=Op.load 35 (Operand.tmp 1),type:=35,pos:= "pool.go:21",after:= #[],guard:=none},{dst:=some 7,op:=Op.call {callee:=Callee.value (Operand.func 25),args:= #[Operand.tmp 6],argTypes:= #[35]},type:=61,pos:= "pool.go:21",after:= #[{on:=0,ground:=Ground.data}],guard:=none},{dst:=some 8,op:=Op.load 35 (Operand.tmp 1),type:=35,pos:= "pool.go:21",after:= #[],guard:=none},{dst:=some 9,op:=Op.call {callee:=Callee.value (Operand.func 26),args:= #[Operand.tmp 8],argTypes:= #[35]},type:=61,pos:= "pool.go:21",after:= #[{on:=2,ground:=Ground.data},{on:=1,ground:=Ground.chain}],guard:=none},{dst:=some 3,op:=Op.alloc 61,type:=0,pos:= "pool.go:21",after:= #[],guard:=none},{dst:=some 4,op:=Op.alloc 61,type:=0,pos:= "pool.go:21",after:= #[],guard:=none},{dst:=none,op:=Op.store 61 (Operand.tmp 3) (Operand.tmp 7),type:=0,pos:= "pool.go:21",after:= #[{on:=4,ground:=Ground.data},{on:=1,ground:=Ground.data},{on:=3,ground:=Ground.chain},{on:=0,ground:=Ground.phase},{on:=1,ground:=Ground.phase},{on:=2,ground:=Ground.textOnly Departure.lateStores},{on:=3,ground:=Ground.textOnly Departure.lateStoresUnsure},{on:=4,ground:=Ground.phase},{on:=5,ground:=Ground.phase}],guard:=none},{dst:=none,op:=Op.store 61 (Operand.tmp 4) (Operand.tmp 9),type:=0,pos:= "pool.go:21",after:= #[{on:=5,ground:=Ground.data},{on:=3,ground:=Ground.data},{on:=6,ground:=Ground.chain},{on:=0,ground:=Ground.phase},{on:=1,ground:=Ground.phase},{on:=2,ground:=Ground.phase},{on:=3,ground:=Ground.phase},{on:=4,ground:=Ground.phase},{on:=5,ground:=Ground.phase},{on:=6,ground:=Ground.phase}],guard:=none}] true).wp Tryz.prog Q {tmps:= #[.pointer (some ⟨a,0,none⟩), .pointer (some ⟨w.heap.size,0,none⟩), .pointer (some ⟨w.heap.size+1,0,none⟩),v3,v4, .func (.func 22) #[] #[.pointer (some ⟨w.heap.size,0,none⟩), .pointer (some ⟨w.heap.size+1,0,none⟩)],v6,v7,v8,v9,undef,undef,undef,undef,undef,undef,undef,undef,undef,undef],defers:= [{target:= .fn (.func 22) #[.pointer (some ⟨w.heap.size,0,none⟩), .pointer (some ⟨w.heap.size+1,0,none⟩)],args:= #[]}]} w1:=by
 refine wp_region_inv (by kernel_rfl) (fun L A w'=>L.size=8∧JC w0 w F p s cR q l m t n a S G T (fun j=>L.getD j false) A w') ?_ ?_ ?_ (acy_of (by kernel_rfl))
 ·rw [hw]
  exact⟨by simp,v3,v4,v6,v7,v8,v9,rfl,hC,fun h=>by simp at h,fun h=>by simp at h,fun h=>by simp at h,fun h=>by simp at h,fun h=>by simp at h,fun h=>by simp at h,fun h=>by simp at h,fun h=>by simp at h,fun h=>by simp at h⟩
 ·intro i o ho L A w' hJ hlt hfl hdep K hK
  obtain⟨hL,hJ⟩:=hJ
  have hset:(fun j=>(L.setIfInBounds i true).getD j false)=(fun j=>if j=i then true else L.getD j false):=funext (fun j=>setg hlt j)
  have hK':Shut (∀A w',JC w0 w F p s cR q l m t n a S G T (fun j=>if j=i then true else L.getD j false) A w'→K A w'):=fun A w' h=>hK.out A w' ⟨by simpa using hL,by rw [hset];exact h⟩
  clear hK hset
  obtain⟨f,hf⟩:∃f,f=fun j=>L.getD j false:=⟨_,rfl⟩
  rw [←hf] at hJ
  have hff:∀j,L.getD j false=f j:=fun j=>by rw [hf]
  simp only [hff] at hK' hfl hdep
  clear hf hff
  obtain⟨x3,x4,x6,x7,x8,x9,rfl,hC',f0,f1,f2,f3,f4,f5,f45,f64,f75⟩:=hJ
  have HC:=Hid.mk hC'
  have HF:=Hid.mk (And.intro f0 (And.intro f1 (And.intro f2 (And.intro f3 (And.intro f4 (And.intro f5 (And.intro f45 (And.intro f64 f75))))))))
  have hi:i<8:=by rw [←hL];exact hlt
  clear hC' f0 f1 f2 f3 f4 f5 f45 f64 f75 hlt hL
  obtain rfl|rfl|rfl|rfl|rfl|rfl|rfl|rfl:i=0∨i=1∨i=2∨i=3∨i=4∨i=5∨i=6∨i=7:=by omega
  ·replace ho:some ({dst:=some 6,op:=Op.load 35 (Operand.tmp 1),type:=35,pos:= "pool.go:21",after:= #[],guard:=none})=some o:=ho
   cases ho
   have c0:=cell_of_block HC.out.b1 (j:=0) rfl
   clear hdep
   go_simp
   exact hK'.out _ _ ⟨x3,x4,_,x7,x8,x9,rfl,HC.out,fun _=>rfl,HF.out.2.1,HF.out.2.2.1,HF.out.2.2.2.1,HF.out.2.2.2.2.1,HF.out.2.2.2.2.2.1,HF.out.2.2.2.2.2.2⟩
  ·replace ho:some ({dst:=some 7,op:=Op.call {callee:=Callee.value (Operand.func 25),args:= #[Operand.tmp 6],argTypes:= #[35]},type:=61,pos:= "pool.go:21",after:= #[{on:=0,ground:=Ground.data}],guard:=none})=some o:=ho
   cases ho
   have e0:x6= .pointer (some ⟨a,0,none⟩):=HF.out.1 (hdep {on:=0,ground:=Ground.data} (by simp) rfl)
   subst e0
   have h1:=blocks_any HC.out.x HC.out.p
   clear hdep
   go_simp
   refine h1.mono ?_
   rintro e w2 ⟨rfl,hb2⟩
   exact hK'.out _ _ ⟨x3,x4,_,_,x8,x9,rfl,HC.out.later hb2,fun _=>rfl,fun _=>rfl,HF.out.2.2.1,HF.out.2.2.2.1,fun h=>(HF.out.2.2.2.2.1 h).later hb2,fun h=>(HF.out.2.2.2.2.2.1 h).later hb2,HF.out.2.2.2.2.2.2⟩
  ·replace ho:some ({dst:=some 8,op:=Op.load 35 (Operand.tmp 1),type:=35,pos:= "pool.go:21",after:= #[],guard:=none})=some o:=ho
   cases ho
   have c0:=cell_of_block HC.out.b1 (j:=0) rfl
   clear hdep
   go_simp
   exact hK'.out _ _ ⟨x3,x4,x6,x7,_,x9,rfl,HC.out,HF.out.1,HF.out.2.1,fun _=>rfl,HF.out.2.2.2.1,HF.out.2.2.2.2.1,HF.out.2.2.2.2.2.1,HF.out.2.2.2.2.2.2⟩
  ·replace ho:some ({dst:=some 9,op:=Op.call {callee:=Callee.value (Operand.func 26),args:= #[Operand.tmp 8],argTypes:= #[35]},type:=61,pos:= "pool.go:21",after:= #[{on:=2,ground:=Ground.data},{on:=1,ground:=Ground.chain}],guard:=none})=some o:=ho
   cases ho
   have e0:x8= .pointer (some ⟨a,0,none⟩):=HF.out.2.2.1 (hdep {on:=2,ground:=Ground.data} (by simp) rfl)
   subst e0
   have h1:=nodes_any HC.out.x HC.out.p
   clear hdep
   go_simp
   refine h1.mono ?_
   rintro e w2 ⟨rfl,hb2⟩
   exact hK'.out _ _ ⟨x3,x4,x6,x7,_,_,rfl,HC.out.later hb2,HF.out.1,HF.out.2.1,fun _=>rfl,fun _=>rfl,fun h=>(HF.out.2.2.2.2.1 h).later hb2,fun h=>(HF.out.2.2.2.2.2.1 h).later hb2,HF.out.2.2.2.2.2.2⟩
  ·replace ho:some ({dst:=some 3,op:=Op.alloc 61,type:=0,pos:= "pool.go:21",after:= #[],guard:=none})=some o:=ho
   cases ho
   clear hdep
   have hb2:=below_box w' (.cells #[.int .i64 0, .int .i64 0, .int .i64 0, .int .i64 0, .int .i64 0] 61)
   have hn:=heap_alloc_new w' (.cells #[.int .i64 0, .int .i64 0, .int .i64 0, .int .i64 0, .int .i64 0] 61)
   have HN:=Hid.mk (And.intro hb2 hn)
   clear hb2 hn
   go_simp
   refine hK'.out _ _ ⟨_,x4,x6,x7,x8,x9,rfl,HC.out.later HN.out.1,HF.out.1,HF.out.2.1,HF.out.2.2.1,HF.out.2.2.2.1,fun _=>⟨w'.heap.size,rfl,HC.out.lo.size,?_⟩,fun h=>(HF.out.2.2.2.2.2.1 h).later HN.out.1,fun _ h=>?_,fun _=>rfl,HF.out.2.2.2.2.2.2.2.2⟩
   ·have h6:¬f 6=true:=fun h=>by have:=HF.out.2.2.2.2.2.2.2.1 h;rw [hfl] at this;cases this
    rw [if_neg (show¬((fun j=>if j=4 then true else f j) 6=true) from h6)]
    exact HN.out.2
   ·obtain⟨g',e,_,h2⟩:=HF.out.2.2.2.2.2.1 h
    intro e'
    rw [e] at e'
    have h9:w'.heap.size=g':=by injection e' with e1;injection e1 with e2;injection e2
    have:=lt_there h2
    omega
  ·replace ho:some ({dst:=some 4,op:=Op.alloc 61,type:=0,pos:= "pool.go:21",after:= #[],guard:=none})=some o:=ho
   cases ho
   clear hdep
   have hb2:=below_box w' (.cells #[.int .i64 0, .int .i64 0, .int .i64 0, .int .i64 0, .int .i64 0] 61)
   have hn:=heap_alloc_new w' (.cells #[.int .i64 0, .int .i64 0, .int .i64 0, .int .i64 0, .int .i64 0] 61)
   have HN:=Hid.mk (And.intro hb2 hn)
   clear hb2 hn
   go_simp
   refine hK'.out _ _ ⟨x3,_,x6,x7,x8,x9,rfl,HC.out.later HN.out.1,HF.out.1,HF.out.2.1,HF.out.2.2.1,HF.out.2.2.2.1,fun h=>(HF.out.2.2.2.2.1 h).later HN.out.1,fun _=>⟨w'.heap.size,rfl,HC.out.lo.size,?_⟩,fun h _=>?_,HF.out.2.2.2.2.2.2.2.1,fun _=>rfl⟩
   ·have h6:¬f 7=true:=fun h=>by have:=HF.out.2.2.2.2.2.2.2.2 h;rw [hfl] at this;cases this
    rw [if_neg (show¬((fun j=>if j=5 then true else f j) 7=true) from h6)]
    exact HN.out.2
   ·obtain⟨g',e,_,h2⟩:=HF.out.2.2.2.2.1 h
    intro e'
    rw [e] at e'
    have h9:g'=w'.heap.size:=by injection e' with e1;injection e1 with e2;injection e2
    have:=lt_there h2
    omega
  ·replace ho:some ({dst:=none,op:=Op.store 61 (Operand.tmp 3) (Operand.tmp 7),type:=0,pos:= "pool.go:21",after:= #[{on:=4,ground:=Ground.data},{on:=1,ground:=Ground.data},{on:=3,ground:=Ground.chain},{on:=0,ground:=Ground.phase},{on:=1,ground:=Ground.phase},{on:=2,ground:=Ground.textOnly Departure.lateStores},{on:=3,ground:=Ground.textOnly Departure.lateStoresUnsure},{on:=4,ground:=Ground.phase},{on:=5,ground:=Ground.phase}],guard:=none})=some o:=ho
   cases ho
   have d4:f 4=true:=hdep {on:=4,ground:=Ground.data} (by simp) rfl
   have d1:f 1=true:=hdep {on:=1,ground:=Ground.data} (by simp) rfl
   have d5:f 5=true:=hdep {on:=5,ground:=Ground.phase} (by simp) rfl
   obtain⟨g,e,hg,hbx⟩:=HF.out.2.2.2.2.1 d4
   have h6:¬f 6=true:=fun h=>by rw [hfl] at h;cases h
   rw [if_neg h6] at hbx
   have e7:=HF.out.2.1 d1
   have hn:x4≠x3:=fun h=>HF.out.2.2.2.2.2.2.1 d4 d5 h.symm
   have HE:=Hid.mk e
   subst e e7
   rw [if_pos (by rfl)]
   refine wp_store_mid _ _ _ rfl g 0 #[.int .i64 ((bSt G.y).bm:Int), .int .i64 ((bSt G.y).zero:Int), .int .i64 ((bSt G.y).first:Int), .int .i64 (((bSt G.y).first:Int)+((bSt G.y).cnt:Int)-1), .int .i64 (bSt G.y).no] rfl rfl (there_of hbx (n:=5) rfl) infoStk (by simp [Value.oneCell']) ?_
   have hk:Keeps (fun k=>k=g) w' (w'.setCells g 0 (Array.toList #[.int .i64 ((bSt G.y).bm:Int), .int .i64 ((bSt G.y).zero:Int), .int .i64 ((bSt G.y).first:Int), .int .i64 (((bSt G.y).first:Int)+((bSt G.y).cnt:Int)-1), .int .i64 (bSt G.y).no])):=Keeps.setCells (F:=fun k=>k=g) rfl _ 0 _
   have hs:=setFive (a':= .int .i64 ((bSt G.y).bm:Int)) (b':= .int .i64 ((bSt G.y).zero:Int)) (c':= .int .i64 ((bSt G.y).first:Int)) (d':= .int .i64 (((bSt G.y).first:Int)+((bSt G.y).cnt:Int)-1)) (e':= .int .i64 (bSt G.y).no) hbx
   exact hK'.out _ _ ⟨_,x4,x6,_,x8,x9,rfl,HC.out.side hg hk,HF.out.1,fun _=>rfl,HF.out.2.2.1,HF.out.2.2.2.1,fun _=>⟨g,rfl,hg,hs⟩,fun h=>(HF.out.2.2.2.2.2.1 h).far rfl hn hk,HF.out.2.2.2.2.2.2.1,fun _=>d4,HF.out.2.2.2.2.2.2.2.2⟩
  ·replace ho:some ({dst:=none,op:=Op.store 61 (Operand.tmp 4) (Operand.tmp 9),type:=0,pos:= "pool.go:21",after:= #[{on:=5,ground:=Ground.data},{on:=3,ground:=Ground.data},{on:=6,ground:=Ground.chain},{on:=0,ground:=Ground.phase},{on:=1,ground:=Ground.phase},{on:=2,ground:=Ground.phase},{on:=3,ground:=Ground.phase},{on:=4,ground:=Ground.phase},{on:=5,ground:=Ground.phase},{on:=6,ground:=Ground.phase}],guard:=none})=some o:=ho
   cases ho
   have d4:f 5=true:=hdep {on:=5,ground:=Ground.data} (by simp) rfl
   have d1:f 3=true:=hdep {on:=3,ground:=Ground.data} (by simp) rfl
   have d5:f 4=true:=hdep {on:=4,ground:=Ground.phase} (by simp) rfl
   obtain⟨g,e,hg,hbx⟩:=HF.out.2.2.2.2.2.1 d4
   have h6:¬f 7=true:=fun h=>by rw [hfl] at h;cases h
   rw [if_neg h6] at hbx
   have e7:=HF.out.2.2.2.1 d1
   have hn:x3≠x4:=HF.out.2.2.2.2.2.2.1 d5 d4
   have HE:=Hid.mk e
   subst e e7
   rw [if_pos (by rfl)]
   refine wp_store_mid _ _ _ rfl g 0 #[.int .i64 ((nSt G.y).bm:Int), .int .i64 ((nSt G.y).zero:Int), .int .i64 ((nSt G.y).first:Int), .int .i64 (((nSt G.y).first:Int)+((nSt G.y).cnt:Int)-1), .int .i64 (nSt G.y).no] rfl rfl (there_of hbx (n:=5) rfl) infoStk (by simp [Value.oneCell']) ?_
   have hk:Keeps (fun k=>k=g) w' (w'.setCells g 0 (Array.toList #[.int .i64 ((nSt G.y).bm:Int), .int .i64 ((nSt G.y).zero:Int), .int .i64 ((nSt G.y).first:Int), .int .i64 (((nSt G.y).first:Int)+((nSt G.y).cnt:Int)-1), .int .i64 (nSt G.y).no])):=Keeps.setCells (F:=fun k=>k=g) rfl _ 0 _
   have hs:=setFive (a':= .int .i64 ((nSt G.y).bm:Int)) (b':= .int .i64 ((nSt G.y).zero:Int)) (c':= .int .i64 ((nSt G.y).first:Int)) (d':= .int .i64 (((nSt G.y).first:Int)+((nSt G.y).cnt:Int)-1)) (e':= .int .i64 (nSt G.y).no) hbx
   exact hK'.out _ _ ⟨x3,_,x6,x7,x8,_,rfl,HC.out.side hg hk,HF.out.1,HF.out.2.1,HF.out.2.2.1,fun _=>rfl,fun h=>(HF.out.2.2.2.2.1 h).far rfl hn hk,fun _=>⟨g,rfl,hg,hs⟩,HF.out.2.2.2.2.2.2.1,HF.out.2.2.2.2.2.2.2.1,fun _=>d4⟩
 ·rintro L A w' ⟨hL,x3,x4,x6,x7,x8,x9,rfl,hC',f0,f1,f2,f3,f4,f5,f45,_,_⟩ hall
  have al:∀j,j<8→L.getD j false=true:=fun j hj=>hall j (by omega)
  obtain⟨g3,rfl,hg3,hb3⟩:=f4 (al 4 (by omega))
  obtain⟨g4,rfl,hg4,hb4⟩:=f5 (al 5 (by omega))
  have h34:g3≠g4:=fun e=>f45 (al 4 (by omega)) (al 5 (by omega)) (by rw [e])
  rw [if_pos (al 6 (by omega))] at hb3
  rw [if_pos (al 7 (by omega))] at hb4
  rw [f0 (al 0 (by omega)),f1 (al 1 (by omega)),f2 (al 2 (by omega)),f3 (al 3 (by omega))]
  exact hQ g3 g4 w' hC' hg3 hg4 h34 hb3 hb4
end
end Go.Proofs.YtkiehemoiapkkaaGreat
end
section
namespace Go.Proofs.YtkiehemoiapkkaaGreat
open Go.RowKit Go.Maps
section
variable {w:World} {F:Nat→Prop} {p s cR q l m t n a:Nat} {S:DS} {G:SG} {T:TG}
def TG.pclear (T:TG) (G:SG) (S:DS):Int×TG:=
 if (T.put G S (bSt G.y).bm (ebm (bSt G.y).first)).1≠0 then ((T.put G S (bSt G.y).bm (ebm (bSt G.y).first)).1,((T.put G S (bSt G.y).bm (ebm (bSt G.y).first)).2.spoil G S (T.put G S (bSt G.y).bm (ebm (bSt G.y).first)).1).2) else
 if ((T.put G S (bSt G.y).bm (ebm (bSt G.y).first)).2.put G S (nSt G.y).bm (ebm 0)).1≠0 then (((T.put G S (bSt G.y).bm (ebm (bSt G.y).first)).2.put G S (nSt G.y).bm (ebm 0)).1,(((T.put G S (bSt G.y).bm (ebm (bSt G.y).first)).2.put G S (nSt G.y).bm (ebm 0)).2.spoil G S ((T.put G S (bSt G.y).bm (ebm (bSt G.y).first)).2.put G S (nSt G.y).bm (ebm 0)).1).2) else
   (0,((T.put G S (bSt G.y).bm (ebm (bSt G.y).first)).2.put G S (nSt G.y).bm (ebm 0)).2)
set_option maxRecDepth 20000 in
set_option maxHeartbeats 8000000 in
theorem clear_any (h:TX w F p s cR q l m t n S G T) (hp:PoolAt w F a t n):
  Calls Tryz.prog 11 #[.pointer (some ⟨a,0,none⟩)] w fun e w'=>e= .returned (.int .i64 (T.pclear G S).1)∧TX w' F p s (cR+2) q l m t n S G (T.pclear G S).2∧Keeps (OwT F t n) w w':=by
 obtain⟨hB1,hg1,hg2,hsz1⟩:=heap2 w (.cells #[.pointer (some ⟨a,0,none⟩)] 35) (.cells #[.int .i64 0] 39)
 obtain⟨w1,hw1⟩:∃w1,w1=(w.alloc (.cells #[.pointer (some ⟨a,0,none⟩)] 35)).alloc (.cells #[.int .i64 0] 39):=⟨_,rfl⟩
 rw [←hw1] at hB1 hg1 hg2 hsz1
 have hlt:=h.lt
 have hpa:=hp.lt
 have hCW:CW w1.drew w1.drew w.heap.size F p s cR q l m t n a S G T:=⟨h.later hB1,hp.later hB1,hg1,hg2,Below.refl _ _,(h.later hB1).low,(hp.later hB1).lt,by omega⟩
 have n1:¬OwT F t n w.heap.size:=fun hf=>by have:=hlt _ hf;omega
 have n2:¬OwT F t n (w.heap.size+1):=fun hf=>by have:=hlt _ hf;omega
 have HB:=Hid.mk hB1
 have HLo:=Hid.mk h.low
 have ht2:w.heap.size+1≠t:=fun e=>n2 (.inr (.inl e))
 have hf4:(bSt G.y).first≤4096:=by have:=h.yk.bl;have:=h.yk.dy;show G.y.data≤4096;omega
 obtain⟨Z,hZ⟩:∃Z,Z=T.pclear G S:=⟨_,rfl⟩
 rw [←hZ]
 unfold TG.pclear at hZ
 obtain⟨k1,hk1⟩:∃k1,k1=bSt G.y:=⟨_,rfl⟩
 obtain⟨k2,hk2⟩:∃k2,k2=nSt G.y:=⟨_,rfl⟩
 rw [←hk1] at hZ hf4
 rw [←hk2] at hZ
 have HZ:=Hid.mk hZ
 have HC:=Hid.mk hCW
 have HK1:=Hid.mk hk1
 have HK2:=Hid.mk hk2
 clear h hp hB1 hg1 hg2 hZ hCW hk1 hk2
 go_enter_defers Tryz.func11,Tryz.ntmps11
 go_wp2_with fail
 rw [←hw1]
 clear hw1
 refine clear_r2 (w0:=w1.drew) rfl HC.out ?_
 intro g3 g4 w2 hC2 hg3 hg4 h34 hb3 hb4
 rw [←HK1.out] at hb3
 rw [←HK2.out] at hb4
 rw [←HK1.out,←HK2.out]
 have HC2:=Hid.mk hC2
 have HB3:=Hid.mk (And.intro hb3 hb4)
 clear hb3 hb4 hC2
 have hz2:=HC2.out.lo.size
 go_wp2_with fail
 have hdw:Below w2.heap.size w2 w2.drew:=below_drew (Below.refl _ _)
 have hCd:=HC2.out.later hdw
 obtain⟨e0,e1,e2,e3,e4⟩:=box_stk (w:=w2.drew) HB3.out.1
 have c0:w2.drew.cell? ⟨w.heap.size,0,none⟩=some (.pointer (some ⟨a,0,none⟩)):=cell_of_block hCd.b1 (j:=0) rfl
 have hem:=ebm_any w2.drew k1.first hf4
 have HCd:=Hid.mk hCd
 have HK2w:Hid (Keeps (OwT F t n) w w2.drew):=Keeps.of_below _ (HB.out.trans (hCd.lo.mono (by omega)))
 clear hCd hdw
 obtain⟨L1,hL1⟩:∃L1:Int,L1=(k1.first:Int)+(k1.cnt:Int)-1:=⟨_,rfl⟩
 rw [←hL1] at e3
 have HL1:=Hid.mk hL1
 clear hL1
 obtain⟨R,hR⟩:∃R,R=T.put G S k1.bm (ebm k1.first):=⟨_,rfl⟩
 have HR:=Hid.mk hR
 clear hR
 refine wp_mixed (PnT [{target:= .fn (.func 22) #[.pointer (some ⟨w.heap.size,0,none⟩), .pointer (some ⟨w.heap.size+1,0,none⟩)],args:= #[]}] [(2, .pointer (some ⟨w.heap.size+1,0,none⟩))] (fun c w9=>∃x,c=gave x∧Z=(x,(R.2.spoil G S x).2)∧TX w9 F p s (cR+1) q l m t n S G R.2∧Keeps (OwT F t n) w w9∧PoolAt w9 F a t n∧w9.heap[w.heap.size]? =some (.cells #[.pointer (some ⟨a,0,none⟩)] 35 (0,0))∧w9.heap[w.heap.size+1]? =some (.cells #[.int .i64 0] 39 (0,0)))) ?_ ?_
 ·rintro c A w9 ⟨hd,hsl,x,rfl,hZ,hx3,hk3,hp3,g1,g2⟩
  have s2:=hsl (2, .pointer (some ⟨w.heap.size+1,0,none⟩)) (by simp)
  dsimp only at s2
  rw [Array.getD_eq_getD_getElem?] at s2
  go_wp2
  show Leaves Tryz.prog _ A.tmps _ A.defers _ w9
  rw [hd]
  refine leaves_cons (f:=22) (args:= #[.pointer (some ⟨w.heap.size,0,none⟩), .pointer (some ⟨w.heap.size+1,0,none⟩)]) (by simp) (by simp [go_sem]) ?_
  refine(clearC_panic hx3 hp3 g1 g2 ht2 x).mono ?_
  rintro e u' w4 ⟨rfl,rfl,w5,hx5,hk5,hb5,hk6⟩
  have q2:w4.cell? ⟨w.heap.size+1,0,none⟩=some (.int .i64 x):=cell_of_block hb5 (j:=0) rfl
  simp [Leaves,settle,results,Tryz.results11,go_sem,s2,q2,hZ]
  exact⟨(hx5.side HLo.out hk6 (fun k e=>by omega)).le (by omega),(hk3.trans hk5 (fun _ e=> .inl (.inr (.inl e)))).trans hk6 (fun k e=> .inr (by omega))⟩
 refine wp_region_held_drew (S:=(fun w'=>w'.cell? ⟨w.heap.size,0,none⟩=some (.pointer (some ⟨a,0,none⟩))∧w'.cell? ⟨g3,0,none⟩=some (.int .i64 (k1.bm:Int))∧w'.cell? ⟨g3,1,none⟩=some (.int .i64 (k1.zero:Int))∧w'.cell? ⟨g3,2,none⟩=some (.int .i64 (k1.first:Int))∧w'.cell? ⟨g3,3,none⟩=some (.int .i64 L1)∧w'.cell? ⟨g3,4,none⟩=some (.int .i64 k1.no))) (by kernel_rfl) (⟨c0,e0,e1,e2,e3,e4⟩) (fun hHeld=>?_)
 refine wpAnyH_take (i:=0) (oi:={dst:=some 10,op:=Op.load 35 (Operand.tmp 1),type:=35,pos:= "pool.go:22",after:= #[],guard:=none}) (v:= .pointer (some ⟨a,0,none⟩)) rfl (by kernel_rfl) (by kernel_rfl) (by kernel_rfl) (mixPut (d:=10) (by simp)) (Or.inl ⟨by rfl,?_⟩) (by assumption) ?_
 ·intro w hSw
  (try dsimp only at hSw)
  go_simp
 try simp only [Act.put,List.setIfInBounds_toArray,List.set_cons_zero,List.set_cons_succ]
 refine wpAnyH_take (i:=1) (oi:={dst:=some 11,op:=Op.load 61 (Operand.tmp 3),type:=61,pos:= "pool.go:22",after:= #[],guard:=none}) (v:= .agg #[.int .i64 (k1.bm:Int), .int .i64 (k1.zero:Int), .int .i64 (k1.first:Int), .int .i64 L1, .int .i64 k1.no]) rfl (by kernel_rfl) (by kernel_rfl) (by kernel_rfl) (mixPut (d:=11) (by simp)) (Or.inl ⟨by rfl,?_⟩) (by assumption) ?_
 ·intro w hSw
  (try dsimp only at hSw)
  go_simp
 try simp only [Act.put,List.setIfInBounds_toArray,List.set_cons_zero,List.set_cons_succ]
 refine wpAnyH_take (i:=2) (oi:={dst:=some 12,op:=Op.fieldAddr 61 (Operand.tmp 3) 2,type:=0,pos:= "pool.go:22",after:= #[],guard:=none}) (v:= .pointer (some ⟨g3,2,none⟩)) rfl (by kernel_rfl) (by kernel_rfl) (by kernel_rfl) (mixPut (d:=12) (by simp)) (Or.inl ⟨by rfl,?_⟩) (by assumption) ?_
 ·intro w hSw
  (try dsimp only at hSw)
  go_simp
 try simp only [Act.put,List.setIfInBounds_toArray,List.set_cons_zero,List.set_cons_succ]
 refine wpAnyH_take (i:=3) (oi:={dst:=some 13,op:=Op.load 3 (Operand.tmp 12),type:=3,pos:= "pool.go:22",after:= #[{on:=2,ground:=Ground.data}],guard:=none}) (v:= .int .i64 (k1.first:Int)) rfl (by kernel_rfl) (by kernel_rfl) (by kernel_rfl) (mixPut (d:=13) (by simp)) (Or.inl ⟨by rfl,?_⟩) (by assumption) ?_
 ·intro w hSw
  (try dsimp only at hSw)
  go_simp
 try simp only [Act.put,List.setIfInBounds_toArray,List.set_cons_zero,List.set_cons_succ]
 refine wpAnyH_ready (rs:= [4]) (by kernel_rfl) (by simp) ?_
 refine AllReadyH.cons (o:={dst:=some 14,op:=Op.call {callee:=Callee.value (Operand.func 28),args:= #[Operand.tmp 13],argTypes:= #[3]},type:=64,pos:= "pool.go:22",after:= #[{on:=3,ground:=Ground.data}],guard:=none}) rfl (fun K hK=>?_) AllReadyH.nil
 go_simp
 refine hem.mono ?_
 rintro e w3 ⟨g5,rfl,hg5,hb5,hbw⟩
 have c0':=cell_later hbw c0
 have e0':=cell_later hbw e0
 have e1':=cell_later hbw e1
 have e2':=cell_later hbw e2
 have e3':=cell_later hbw e3
 have e4':=cell_later hbw e4
 refine hK.out _ _ ?_ (fun hHeld=>?_)
 ·exact⟨c0',e0',e1',e2',e3',e4'⟩
 clear hK K
 try simp only [Act.put,List.setIfInBounds_toArray,List.set_cons_zero,List.set_cons_succ]
 refine wpAnyH_ready (rs:= [5]) (by kernel_rfl) (by simp) ?_
 refine AllReadyH.cons (o:={dst:=some 15,op:=Op.call {callee:=Callee.value (Operand.func 27),args:= #[Operand.tmp 10,Operand.tmp 11,Operand.tmp 14],argTypes:= #[35,61,64]},type:=0,pos:= "pool.go:22",after:= #[{on:=0,ground:=Ground.data},{on:=1,ground:=Ground.data},{on:=4,ground:=Ground.data},{on:=4,ground:=Ground.chain}],guard:=none}) rfl (fun K hK=>?_) AllReadyH.nil
 go_simp
 have hst:stkV k1= .agg #[.int .i64 (k1.bm:Int), .int .i64 (k1.zero:Int), .int .i64 (k1.first:Int), .int .i64 L1, .int .i64 k1.no]:=by rw [HL1.out]
 have hly:=play_any (c:=512) (HCd.out.x.later hbw) (HCd.out.p.later hbw) k1 hb5 (ebm_len _) (ebm_bytes _)
 rw [hst,←HR.out] at hly
 refine hly.mono ?_
 rintro e w4 ⟨hran,hx4,hk4⟩
 have hkw4:=HK2w.out.trans ((Keeps.of_below (OwT F t n) hbw).trans hk4 (fun _ h=> .inl h)) (fun _ h=> .inl h)
 have hC3:=HCd.out.later hbw
 have g1:=(hk4.block _ (lt_there hC3.b1) n1).trans hC3.b1
 have g2:=(hk4.block _ (lt_there hC3.b2) n2).trans hC3.b2
 have hp4:=hC3.p.keep hk4
 have ng:∀g,w1.drew.heap.size≤g→¬OwT F t n g:=fun g hg hf=>by have:=hlt _ hf;omega
 have hb34:=(hbw.block _ (lt_there (w:=w2.drew) HB3.out.1)).trans (show w2.drew.heap[g3]? =_ from HB3.out.1)
 have hb44:=(hbw.block _ (lt_there (w:=w2.drew) HB3.out.2)).trans (show w2.drew.heap[g4]? =_ from HB3.out.2)
 have hb35:=(hk4.block _ (lt_there hb34) (ng g3 hg3)).trans hb34
 have hb45:=(hk4.block _ (lt_there hb44) (ng g4 hg4)).trans hb44
 have HQ:Hid (TX w4 F p s (cR+1) q l m t n S G R.2∧Keeps (OwT F t n) w w4∧PoolAt w4 F a t n):=⟨hx4,hkw4,hp4⟩
 have HGG:=Hid.mk (And.intro g1 g2)
 have HB4:=Hid.mk hb45
 have c9:w4.cell? ⟨w.heap.size,0,none⟩=some (.pointer (some ⟨a,0,none⟩)):=cell_of_block g1 (j:=0) rfl
 obtain⟨i0,i1,i2,i3,i4⟩:=box_stk hb35
 rw [←HL1.out] at i3
 clear hem hbw c0 e0 e1 e2 e3 e4 c0' e0' e1' e2' e3' e4' hly hst hx4 hk4 hkw4 hC3 g1 g2 hp4 hb34 hb44 hb35 hb45 hb5 ng
 unfold Ran at hran
 have hZ:=HZ.out
 rw [←HR.out] at hZ
 by_cases hr1:R.1=0
 ·rw [if_pos hr1] at hran
  subst hran
  rw [if_neg (fun h=>h hr1)] at hZ
  have HZ2:=Hid.mk hZ
  clear hZ hr1
  refine hK.out _ _ ?_ (fun hHeld=>?_)
  ·exact⟨c9,i0,i1,i2,i3,i4⟩
  clear hK K
  try simp only [Act.put,List.setIfInBounds_toArray,List.set_cons_zero,List.set_cons_succ]
  refine wpAnyH_done (by kernel_rfl) ?_ _
  dsimp only [mixP]
  clear hHeld c9 i0 i1 i2 i3 i4
  go_wp2_with fail
  have hdw:Below w4.heap.size w4 w4.drew:=below_drew (Below.refl _ _)
  obtain⟨e0,e1,e2,e3,e4⟩:=box_stk (w:=w4.drew) HB4.out
  obtain⟨L2,hL2⟩:∃L2:Int,L2=(k2.first:Int)+(k2.cnt:Int)-1:=⟨_,rfl⟩
  rw [←hL2] at e3
  have HL2:=Hid.mk hL2
  clear hL2
  have c0:w4.drew.cell? ⟨w.heap.size,0,none⟩=some (.pointer (some ⟨a,0,none⟩)):=cell_of_block (w:=w4.drew) HGG.out.1 (j:=0) rfl
  have hem:=ebm_any w4.drew 0 (by omega)
  rw [show ((0:Nat):Int)=0 from rfl] at hem
  obtain⟨R2,hR2⟩:∃R2,R2=R.2.put G S k2.bm (ebm 0):=⟨_,rfl⟩
  have HR2:=Hid.mk hR2
  clear hR2
  refine wp_mixed (PnT [{target:= .fn (.func 22) #[.pointer (some ⟨w.heap.size,0,none⟩), .pointer (some ⟨w.heap.size+1,0,none⟩)],args:= #[]}] [(2, .pointer (some ⟨w.heap.size+1,0,none⟩))] (fun c w9=>∃x,c=gave x∧Z=(x,(R2.2.spoil G S x).2)∧TX w9 F p s (cR+2) q l m t n S G R2.2∧Keeps (OwT F t n) w w9∧PoolAt w9 F a t n∧w9.heap[w.heap.size]? =some (.cells #[.pointer (some ⟨a,0,none⟩)] 35 (0,0))∧w9.heap[w.heap.size+1]? =some (.cells #[.int .i64 0] 39 (0,0)))) ?_ ?_
  ·rintro c A w9 ⟨hd,hsl,x,rfl,hZ,hx3,hk3,hp3,g1,g2⟩
   have s2:=hsl (2, .pointer (some ⟨w.heap.size+1,0,none⟩)) (by simp)
   dsimp only at s2
   rw [Array.getD_eq_getD_getElem?] at s2
   go_wp2
   show Leaves Tryz.prog _ A.tmps _ A.defers _ w9
   rw [hd]
   refine leaves_cons (f:=22) (args:= #[.pointer (some ⟨w.heap.size,0,none⟩), .pointer (some ⟨w.heap.size+1,0,none⟩)]) (by simp) (by simp [go_sem]) ?_
   refine(clearC_panic hx3 hp3 g1 g2 ht2 x).mono ?_
   rintro e u' w4 ⟨rfl,rfl,w5,hx5,hk5,hb5,hk6⟩
   have q2:w4.cell? ⟨w.heap.size+1,0,none⟩=some (.int .i64 x):=cell_of_block hb5 (j:=0) rfl
   simp [Leaves,settle,results,Tryz.results11,go_sem,s2,q2,hZ]
   exact⟨(hx5.side HLo.out hk6 (fun k e=>by omega)).le (by omega),(hk3.trans hk5 (fun _ e=> .inl (.inr (.inl e)))).trans hk6 (fun k e=> .inr (by omega))⟩
  refine wp_region_held_drew (S:=(fun w'=>w'.cell? ⟨w.heap.size,0,none⟩=some (.pointer (some ⟨a,0,none⟩))∧w'.cell? ⟨g4,0,none⟩=some (.int .i64 (k2.bm:Int))∧w'.cell? ⟨g4,1,none⟩=some (.int .i64 (k2.zero:Int))∧w'.cell? ⟨g4,2,none⟩=some (.int .i64 (k2.first:Int))∧w'.cell? ⟨g4,3,none⟩=some (.int .i64 L2)∧w'.cell? ⟨g4,4,none⟩=some (.int .i64 k2.no))) (by kernel_rfl) (⟨c0,e0,e1,e2,e3,e4⟩) (fun hHeld=>?_)
  refine wpAnyH_take (i:=0) (oi:={dst:=some 16,op:=Op.load 35 (Operand.tmp 1),type:=35,pos:= "pool.go:23",after:= #[],guard:=none}) (v:= .pointer (some ⟨a,0,none⟩)) rfl (by kernel_rfl) (by kernel_rfl) (by kernel_rfl) (mixPut (d:=16) (by simp)) (Or.inl ⟨by rfl,?_⟩) (by assumption) ?_
  ·intro w hSw
   (try dsimp only at hSw)
   go_simp
  try simp only [Act.put,List.setIfInBounds_toArray,List.set_cons_zero,List.set_cons_succ]
  refine wpAnyH_take (i:=1) (oi:={dst:=some 17,op:=Op.load 61 (Operand.tmp 4),type:=61,pos:= "pool.go:23",after:= #[],guard:=none}) (v:= .agg #[.int .i64 (k2.bm:Int), .int .i64 (k2.zero:Int), .int .i64 (k2.first:Int), .int .i64 L2, .int .i64 k2.no]) rfl (by kernel_rfl) (by kernel_rfl) (by kernel_rfl) (mixPut (d:=17) (by simp)) (Or.inl ⟨by rfl,?_⟩) (by assumption) ?_
  ·intro w hSw
   (try dsimp only at hSw)
   go_simp
  try simp only [Act.put,List.setIfInBounds_toArray,List.set_cons_zero,List.set_cons_succ]
  refine wpAnyH_ready (rs:= [2]) (by kernel_rfl) (by simp) ?_
  refine AllReadyH.cons (o:={dst:=some 18,op:=Op.call {callee:=Callee.value (Operand.func 28),args:= #[Operand.const (Value.int IntKind.i64 0)],argTypes:= #[3]},type:=64,pos:= "pool.go:23",after:= #[],guard:=none}) rfl (fun K hK=>?_) AllReadyH.nil
  go_simp
  refine hem.mono ?_
  rintro e w5 ⟨g5,rfl,hg5,hb5,hbw⟩
  have c0':=cell_later hbw c0
  have e0':=cell_later hbw e0
  have e1':=cell_later hbw e1
  have e2':=cell_later hbw e2
  have e3':=cell_later hbw e3
  have e4':=cell_later hbw e4
  refine hK.out _ _ ?_ (fun hHeld=>?_)
  ·exact⟨c0',e0',e1',e2',e3',e4'⟩
  clear hK K
  try simp only [Act.put,List.setIfInBounds_toArray,List.set_cons_zero,List.set_cons_succ]
  refine wpAnyH_ready (rs:= [3]) (by kernel_rfl) (by simp) ?_
  refine AllReadyH.cons (o:={dst:=some 19,op:=Op.call {callee:=Callee.value (Operand.func 27),args:= #[Operand.tmp 16,Operand.tmp 17,Operand.tmp 18],argTypes:= #[35,61,64]},type:=0,pos:= "pool.go:23",after:= #[{on:=0,ground:=Ground.data},{on:=1,ground:=Ground.data},{on:=2,ground:=Ground.data},{on:=2,ground:=Ground.chain}],guard:=none}) rfl (fun K hK=>?_) AllReadyH.nil
  go_simp
  have hst:stkV k2= .agg #[.int .i64 (k2.bm:Int), .int .i64 (k2.zero:Int), .int .i64 (k2.first:Int), .int .i64 L2, .int .i64 k2.no]:=by rw [HL2.out]
  have hbx5:=hdw.trans (hbw.mono (by have:=hdw.size;omega))
  have hly:=play_any (c:=512) (HQ.out.1.later hbx5) (HQ.out.2.2.later hbx5) k2 hb5 (ebm_len _) (ebm_bytes _)
  rw [hst,←HR2.out] at hly
  refine hly.mono ?_
  rintro e w6 ⟨hran,hx6,hk6⟩
  have hkw6:=HQ.out.2.1.trans ((Keeps.of_below (OwT F t n) hbx5).trans hk6 (fun _ h=> .inl h)) (fun _ h=> .inl h)
  have h5b1:=(hbx5.block _ (lt_there HGG.out.1)).trans HGG.out.1
  have h5b2:=(hbx5.block _ (lt_there HGG.out.2)).trans HGG.out.2
  have g1:=(hk6.block _ (lt_there h5b1) n1).trans h5b1
  have g2:=(hk6.block _ (lt_there h5b2) n2).trans h5b2
  have hp6:=(HQ.out.2.2.later hbx5).keep hk6
  have ng:¬OwT F t n g4:=fun hf=>by have:=hlt _ hf;omega
  have hb46:=(hk6.block _ (Nat.lt_of_lt_of_le (lt_there HB4.out) hbx5.size) ng).trans ((hbx5.block _ (lt_there HB4.out)).trans HB4.out)
  have HQ6:Hid (TX w6 F p s (cR+2) q l m t n S G R2.2∧Keeps (OwT F t n) w w6∧PoolAt w6 F a t n):=⟨hx6,hkw6,hp6⟩
  have HG6:=Hid.mk (And.intro g1 g2)
  have c9:w6.cell? ⟨w.heap.size,0,none⟩=some (.pointer (some ⟨a,0,none⟩)):=cell_of_block g1 (j:=0) rfl
  obtain⟨i0,i1,i2,i3,i4⟩:=box_stk hb46
  rw [←HL2.out] at i3
  have d0:w6.cell? ⟨w.heap.size+1,0,none⟩=some (.int .i64 0):=cell_of_block g2 (j:=0) rfl
  have f0:=frozen_of_block g2 0
  clear hem hbw c0 e0 e1 e2 e3 e4 c0' e0' e1' e2' e3' e4' hly hst hx6 hk6 hkw6 h5b1 h5b2 g1 g2 hp6 hb46 hb5 ng hbx5
  unfold Ran at hran
  have hZ:=HZ2.out
  rw [←HR2.out] at hZ
  by_cases hr2:R2.1=0
  ·rw [if_pos hr2] at hran
   subst hran
   rw [if_neg (fun h=>h hr2)] at hZ
   have HZ3:=Hid.mk hZ
   clear hZ hr2
   refine hK.out _ _ ?_ (fun hHeld=>?_)
   ·exact⟨c9,i0,i1,i2,i3,i4⟩
   clear hK K
   try simp only [Act.put,List.setIfInBounds_toArray,List.set_cons_zero,List.set_cons_succ]
   refine wpAnyH_done (by kernel_rfl) ?_ _
   dsimp only [mixP]
   clear hHeld c9 i0 i1 i2 i3 i4
   have pe:=putsE (w:=w6) (w':=w6) (x:=0) (.int .i64 0) rfl (Keeps.refl _ _) HG6.out.2
   have HPe:=Hid.mk pe
   clear pe
   go_wp2
   obtain⟨w7,hw7⟩:∃w7,w7=w6.setCell ⟨w.heap.size+1,0,none⟩ (.int .i64 0):=⟨_,rfl⟩
   rw [←hw7] at HPe
   rw [←hw7]
   clear hw7 d0 f0
   refine leaves_cons (f:=22) (args:= #[.pointer (some ⟨w.heap.size,0,none⟩), .pointer (some ⟨w.heap.size+1,0,none⟩)]) (by simp) (by simp [go_sem]) ?_
   have hp7:PoolAt w7 F a t n:=⟨(HPe.out.2.block a HQ6.out.2.2.lt (by omega)).trans HQ6.out.2.2.b,HQ6.out.2.2.nf⟩
   have g7:=(HPe.out.2.block _ (lt_there HG6.out.1) (by omega)).trans HG6.out.1
   refine(clearC_idle hp7 g7 HPe.out.1).mono ?_
   rintro e u' w8 ⟨rfl,rfl,hb8,hk8⟩
   have q2:w8.cell? ⟨w.heap.size+1,0,none⟩=some (.int .i64 0):=cell_of_block hb8 (j:=0) rfl
   simp [Leaves,settle,results,Tryz.results11,go_sem,q2,HZ3.out]
   exact⟨(HQ6.out.1.side HLo.out HPe.out.2 (fun k e=>by omega)).side HLo.out hk8 (fun k e=>by omega),(HQ6.out.2.1.trans HPe.out.2 (fun k e=> .inr (by omega))).trans hk8 (fun k e=> .inr (by omega))⟩
  ·rw [if_neg hr2] at hran
   rw [if_pos hr2] at hZ
   subst hran
   exact⟨rfl,by simp,_,rfl,hZ,HQ6.out.1,HQ6.out.2.1,HQ6.out.2.2,HG6.out.1,HG6.out.2⟩
 ·rw [if_neg hr1] at hran
  rw [if_pos hr1] at hZ
  subst hran
  exact⟨rfl,by simp,_,rfl,hZ,HQ.out.1,HQ.out.2.1,HQ.out.2.2,HGG.out.1,HGG.out.2⟩
end
end Go.Proofs.YtkiehemoiapkkaaGreat
end
section
namespace Go.Proofs.YtkiehemoiapkkaaGreat
open Go.RowKit
theorem nilOk:CM.Ok []:=List.Pairwise.nil
def below (ms:CM) (b:Nat):CM:=ms.filter (fun q=>decide (q.1<b))
end Go.Proofs.YtkiehemoiapkkaaGreat
end
section
namespace Go.Proofs.YtkiehemoiapkkaaGreat
open Go.RowKit Go.Maps
end Go.Proofs.YtkiehemoiapkkaaGreat
end
section
namespace Go.Proofs.YtkiehemoiapkkaaGreat
open Go.RowKit Go.Maps
end Go.Proofs.YtkiehemoiapkkaaGreat
end
section
namespace Go.Proofs.YtkiehemoiapkkaaGreat
open Go.RowKit Go.Maps
end Go.Proofs.YtkiehemoiapkkaaGreat
end
section
namespace Go.Proofs.YtkiehemoiapkkaaGreat
open Go.RowKit Go.Maps
section
variable {w w':World} {X Y G:Nat→Prop} {v:Value} {ps:List (Nat×List Int)} {xs:List Value}
end
end Go.Proofs.YtkiehemoiapkkaaGreat
end
