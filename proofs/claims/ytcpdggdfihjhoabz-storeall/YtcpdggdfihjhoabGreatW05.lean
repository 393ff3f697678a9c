import Derived.Test.YtcpdggdfihjhoabGreatW01
import Derived.Test.YtcpdggdfihjhoabGreatW04
import Derived.Deep.AppendLies
import Derived.OrdersHeld
import Derived.Deep.RegionHeld
import Derived.Scope
import Derived.WalkMore
import Derived.Deep.RegionLaw
import Derived.BigRegion
set_option maxRecDepth 20000
set_option maxHeartbeats 8000000
set_option linter.all false
namespace Go.Proofs.YtcpdggdfihjhoabGreat
open Go.Proofs.Tryz
open Go.RowKit Go.Maps
variable {cur cur':Array Value} {S:DS} {x:Int} {L:LG} {rs:List (List Int)} {ps:List (Nat×List Int)} {d l:List Int} {ls vs xs:List Value} {B' B0 E N P base c cap Q4 cl f g g' gl hd i j k n p q s size:Nat} {R:Nat->PC} {F G X X':Nat->Prop} {e e' t':TypeId} {u v vR vr:Value} {W W' W'' w w' w2 w3:World}
def dQ (W:World) (B:Nat) (v:Value) (rs:List (List Int)) (X:Nat->Prop):Prop:=
 ∃vs,W.ownsRow B 22 1 v rs.length vs/\∀i (hi:i<rs.length),∃g c,vs[i]? =some (.slice (some (aD g 0)) (rs[i]).length c)/\ay W 5 g c (bs rs[i])/\B<=g/\¬X g
def dQ.nil (W:World) (B:Nat) (X:Nat->Prop):dQ W B (.slice none 0 0) [] X:=⟨[],World.ownsRow_nil _ _ _ _,λi a=>by cases a⟩
def kz (W W':World):Prop:=∀(b:Nat) (cur:Array Value) (t:TypeId) (fz:Nat×Nat),W.heap[b]? =some (Obj.cells cur t fz)->W'.heap[b]? =some (Obj.cells cur t fz)
def bz {B:Nat} (h:W.ownsRow B e 1 v n xs) (a:v.ownBlock=some g):∃cur,W.heap[g]? =some (.cells cur e (0,0)):=by
 obtain⟨_,⟨rfl,_⟩|⟨d,b,cur,rfl,_,c,_⟩⟩:=h
 .simp [Value.ownBlock] at a
 .simp [Value.ownBlock] at a;subst a;exact⟨cur,c⟩
def dR {B:Nat} (h:W.ownsRow B e 1 v n xs) (d:∀g,v.ownBlock=some g->W'.heap[g]? =W.heap[g]?):W'.ownsRow B e 1 v n xs:=by
 obtain⟨b,h|⟨g,a,cur,rfl,f,tj,c⟩⟩:=h
 .exact⟨b, .inl h⟩
 .exact⟨b, .inr ⟨g,a,cur,rfl,f,(d g rfl).trans tj,c⟩⟩
def dQ.step {B:Nat} (h:dQ W B v rs X) (be:∀g,v.ownBlock=some g->W'.heap[g]? =W.heap[g]?)
    (Gj:∀g cur,W.heap[g]? =some (.cells cur 5 (0,0))->¬X g->W'.heap[g]? =W.heap[g]?) (l:∀g,g<W.heap.size->X' g->X g):dQ W' B v rs X':=by
 obtain⟨n,f,j⟩:=h;refine⟨n,dR f be,λi m=>?_⟩;obtain⟨g,c,e,b,k,d⟩:=j i m;have bq:=b.lt;obtain⟨cur,a,j1⟩:=b;exact⟨g,c,e,⟨cur,(Gj g cur a d).trans a,j1⟩,k,λh=>d (l g bq h)⟩
def dQ.cells {B:Nat} (h:dQ W B v rs X) (d:kz W W'):dQ W' B v rs X:=by
 obtain⟨n,b,f⟩:=h;refine⟨n,dR b (λg k=>?_),λi l=>?_⟩
 .obtain⟨cur,a⟩:=bz b k;rw [d _ _ _ _ a,a]
 .obtain⟨g,c,e,⟨cur,a,j1⟩,j,m⟩:=f i l;exact⟨g,c,e,⟨cur,d _ _ _ _ a,j1⟩,j,m⟩
def Own.cells {B:Nat} (h:Own W B v l) (b:kz W W'):Own W' B v l:=
 dR h (λg c=>by
  obtain⟨cur,a⟩:=bz h c;rw [b _ _ _ _ a,a])
structure jx (W:World) (B0 B E:Nat) (st:SS) (vR vr:Value):Prop where
 r:Boxed W B0 79 vR
 c:Boxed W (B0+1) 22 vr
 h:Boxed W (B0+2) 3 (iV (st.hd:Int))
 d:W.heap[B0+3]? =some (.cells #[.int .i64 (E:Int), .int .i64 (st.ps:Int), .int .i64 (st.j:Int), .int .i64 (st.c:Int)] 227 (0,0))
 rs:dQ W B vR st.rs (λk=>vr.ownBlock=some k)
 rc:Own W B vr st.rc
 lo:B0+6<=B
def jx.cells {B:Nat} {b:SS} (h:jx W B0 B E b vR vr) (a:kz W W'):jx W' B0 B E b vR vr:=
   ⟨a _ _ _ _ h.r,a _ _ _ _ h.c,a _ _ _ _ h.h,a _ _ _ _ h.d,h.rs.cells a,h.rc.cells a,h.lo⟩
def ez (a:bW W W'):kz W W':=λb _ _ _ h=>(a.block b (aq h)).trans h
def jf {row:Option Nat} (d:W.grownBy W' row) (f:∀r,row=some r->∃o:Obj,W.heap[r]? =some o/\o.isCells=false):kz W W':=λb cur t g h=>by
 refine(d.block b (aq h) (λe=>?_)).trans h;obtain⟨o,a,c⟩:=f b e.symm;rw [h] at a;cases a;cases c
def ju {B:Nat} (h:W.ownsRow B e 1 v n xs) (a:v.ownBlock=some g):B<=g:=by
 obtain⟨_,⟨rfl,_⟩|⟨c,b,cur,rfl,f,d,_⟩⟩:=h
 .simp [Value.ownBlock] at a
 .simp [Value.ownBlock] at a;omega
def tU {t:TypeId} {c a:Nat×Nat} (h:W.heap[g]? =some (.cells cur t c)) (b:W.heap[g]? =some (.cells cur' t' a)) (d:t≠t'):False:=by
 rw [h] at b;cases b;exact d rfl
def jx.grow {B:Nat} {a:SS} (h:jx W B0 B E a vR vr)
    (j:w2.ownsRow B 5 1 (.slice (some (aD g 0)) (a.rc.length+d.length) cap) (a.rc.length+d.length) (bs a.rc ++ bs d)) (i:W.grownBy w2 vr.ownBlock) (is:vr.ownBlock=some g\/g=W.heap.size):
  Boxed w2 B0 79 vR/\Boxed w2 (B0+1) 22 vr/\Boxed w2 (B0+2) 3 (iV (a.hd:Int))/\w2.heap[B0+3]? =W.heap[B0+3]?/\
   dQ w2 B vR a.rs (λk=>k=g)/\Own w2 B (.slice (some (aD g 0)) (a.rc.length+d.length) cap) (a.rc ++ d):=by
 have mi:=h.lo;have dM:∀k,k<B->vr.ownBlock≠some k:=λk b e=>by have:=ju h.rc e;omega
 have f:∀k,k<B->k<W.heap.size->w2.heap[k]? =W.heap[k]? :=λk b n=>i.block k n (λe=>dM k b e.symm);refine⟨(f _ (by omega) h.r.lt).trans h.r,(f _ (by omega) h.c.lt).trans h.c,(f _ (by omega) h.h.lt).trans h.h,f _ (by omega) (aq h.d),?_,?_⟩
 .refine h.rs.step (λk b=>?_) (λk cur m o=>?_) (λk b e=>?_)
  .obtain⟨p,l,_⟩:=h.rs;obtain⟨cur,ar⟩:=bz l b;refine i.block k (aq ar) (λe=>?_);obtain⟨ac4,bd⟩:=bz h.rc e.symm;exact tU ar bd (by decide)
  .exact i.block k (aq m) (λe=>o e.symm)
  .rcases is with is|is
   .rw [e];exact is
   .omega
 .rw [<-iQ] at j;have:a.rc.length+d.length=(a.rc ++ d).length:=by simp
  unfold Own;rw [this] at j⊢;exact j
def CD {B:Nat} {r:List Int} (be:W.ownsRow B 22 1 v rs.length vs)
    (I1:∀i (b:i<rs.length),∃g c,vs[i]? =some (.slice (some (aD g 0)) (rs[i]).length c)/\ay W 5 g c (bs rs[i])/\B<=g) (p:ay W 5 g c (bs r)) (k:B<=g)
    (o:W'.ownsRow B 22 1 (.slice (some (aD g' 0)) (rs.length+1) Q4) (rs.length+1) (vs ++ [.slice (some (aD g 0)) r.length c])) (m:W.grownBy W' v.ownBlock):
  dQ W' B (.slice (some (aD g' 0)) (rs.length+1) Q4) (rs ++ [r]) (λ_=>False):=by
 have n:vs.length=rs.length:=by have:=be.1;simpa using this
 have aw:∀{x y:Nat} {l:List Int},ay W 5 x y (bs l)->ay W' 5 x y (bs l):=λ{x y l} h=>by
  obtain⟨cur,a,j1⟩:=h;refine⟨cur,(m.block x (aq a) (λe=>?_)).trans a,j1⟩;obtain⟨ac4,bd⟩:=bz be e.symm;exact tU a bd (by decide)
 refine⟨vs ++ [.slice (some (aD g 0)) r.length c],by rw [ed];exact o,λi b=>?_⟩;by_cases e:i<rs.length
 .obtain⟨x,y,d,f,j⟩:=I1 i e;refine⟨x,y,?_,?_,j,λh=>h⟩
  .rw [List.getElem?_append_left (by omega),d,List.getElem_append_left e]
  .rw [List.getElem_append_left e];exact aw f
 .have ny:i=rs.length:=by simp at b;omega
  subst ny;refine⟨g,c,?_,?_,k,λh=>h⟩
  .rw [List.getElem?_append_right (by omega),n,Nat.sub_self];simp
  .simp;exact aw p
def jx.set {f:World} {B:Nat} {n:SS} (h:jx W B0 B E n vR vr) (a:aa (λk=>k=B0+3) W f) (ps j c:Nat)
    (hd:f.heap[B0+3]? =some (.cells #[.int .i64 (E:Int), .int .i64 (ps:Int), .int .i64 (j:Int), .int .i64 (c:Int)] 227 (0,0))):jx f B0 B E {n with ps:=ps,j:=j,c:=c} vR vr:=by
 have mi:=h.lo;refine⟨(a.block _ h.r.lt (by omega)).trans h.r,(a.block _ h.c.lt (by omega)).trans h.c,(a.block _ h.h.lt (by omega)).trans h.h,hd,?_,?_,mi⟩
 .refine h.rs.step (λg b=>?_) (λg cur m _=>?_) (λ_ _ e=>e)
  .obtain⟨o,l,_⟩:=h.rs;obtain⟨cur,i⟩:=bz l b;exact a.block g (aq i) (by have:=ju l b;omega)
  .exact a.block g (aq m) (λe=>tU m (e▸h.d) (by decide))
 .exact dR h.rc (λg b=>by
   obtain⟨cur,i⟩:=bz h.rc b;exact a.block g (aq i) (by have:=ju h.rc b;omega))
structure iC (B0:Nat) (w W W':World):Prop where
 b:bW w W'
 k:KeepsFrom (B0+6) W W'
 p:Gh B0 (B0+1+1+1+1) (B0+1+1+1+1+1) W W'
def iC.below (h:iC B0 w W W') (c:w.heap.size=B0) (i:B0+6<=W.heap.size) (a:bW W' W''):iC B0 w W W'':=by
 have g:=h.k.size;refine⟨h.b.trans (a.mono h.b.size),⟨j3 h.k.size a.size,λk o d e f=>?_⟩,h.p.1.trans (a.mono (by omega)),(a.block _ (by omega)).trans h.p.2.1,(a.block _ (by omega)).trans h.p.2.2⟩;have:=h.k.same k o d e f;exact(a.block k (aq this)).trans this
def iC.set (h:iC B0 w W W') (c:w.heap.size=B0) {b:Nat} (a:B0<=b) (bd:b<B0+4) (j:Nat) (v:Value):iC B0 w W (W'.setCell ⟨b,j,none⟩ v):=by
 refine⟨h.b.setCell (p:=⟨b,j,none⟩) (by rw [c];exact a) v,h.k.trans ((KeepsOthers.setCell _ _ _).from _),h.p.1.setCell (p:=⟨b,j,none⟩) a v,?_,?_⟩
 .exact(Below.heap_setCell W' ⟨b,j,none⟩ v _ (by show _≠b;omega)).trans h.p.2.1
 .exact(Below.heap_setCell W' ⟨b,j,none⟩ v _ (by show _≠b;omega)).trans h.p.2.2
def iC.start (a:bW w W):iC B0 w W W:=⟨a,KeepsFrom.refl _ _,Gh.refl _ _ _ _⟩
def iC.grown {row:Option Nat} (h:iC B0 w W W') (m:w.heap.size=B0) (q:B0+6<=W.heap.size) (a:W'.grownBy W'' row) (c:∀r,row=some r->B0+6<=r/\∃cur t,W'.heap[r]? =some (.cells cur t (0,0))):iC B0 w W W'':=by
 have l:=h.k.size;have dM:∀k,k<B0+6->some k≠row:=λk n e=>by have:=(c k e.symm).1;omega
 refine⟨h.b.grown a h.b.size (λk e=>by have:=(c k e).1;omega),⟨j3 h.k.size a.size,λk o i j f=>?_⟩,h.p.1.grown a (by omega) (λk e=>by have:=(c k e).1;omega),(a.block _ (by omega) (dM _ (by omega))).trans h.p.2.1,(a.block _ (by omega) (dM _ (by omega))).trans h.p.2.2⟩;have d:=h.k.same k o i j f;refine(a.block k (aq d) (λe=>?_)).trans d;obtain⟨cur,t,g⟩:=(c k e.symm).2;rw [d] at g;cases g;cases f
def dQ.low {B:Nat} (h:dQ W B v rs X) (p:B'<=B) (j:∀k,X' k->X k):dQ W B' v rs X':=by
 obtain⟨o,⟨d,b⟩,f⟩:=h;refine⟨o,⟨d,?_⟩,λi l=>?_⟩
 .rcases b with b|⟨g,a,cur,e,r,j1⟩
  .exact .inl b
  .exact .inr ⟨g,a,cur,e,by omega,j1⟩
 .obtain⟨g,c,e,m,q,n⟩:=f i l;exact⟨g,c,e,m,by omega,λh=>n (j _ h)⟩
def dQ.xA {B:Nat} (h:dQ W B v rs X) {b:Nat} (p:b<B) (j:Nat) (u:Value):dQ (W.setCell ⟨b,j,none⟩ u) B v rs X:=by
 obtain⟨o,a,d⟩:=h;refine⟨o,dR a (λg l=>Below.heap_setCell W ⟨b,j,none⟩ u g (by have:=ju a l;show g≠b;omega)),λi m=>?_⟩;obtain⟨g,c,e,⟨cur,k,j1⟩,f,n⟩:=d i m;exact⟨g,c,e,⟨cur,(Below.heap_setCell W ⟨b,j,none⟩ u g (by show g≠b;omega)).trans k,j1⟩,f,n⟩
def Own.xA {B:Nat} (h:Own W B v l) {b:Nat} (c:b<B) (j:Nat) (u:Value):Own (W.setCell ⟨b,j,none⟩ u) B v l:=
 dR h (λg a=>Below.heap_setCell W ⟨b,j,none⟩ u g (by have:=ju h a;show g≠b;omega))
def bZ {b:Nat} {o:Obj} (h:W.heap[c]? =some o) (dM:c≠b):(W.setCell ⟨b,j,none⟩ u).heap[c]? =some o:=(Below.heap_setCell W ⟨b,j,none⟩ u c dM).trans h
def jx.more {B:Nat} {a:SS} (h:jx W B0 B E a vR vr)
    (q:w2.ownsRow B 5 1 (.slice (some (aD g 0)) (a.rc.length+d.length) cap) (a.rc.length+d.length) (bs a.rc ++ bs d)) (p:W.grownBy w2 vr.ownBlock) (is:vr.ownBlock=some g\/g=W.heap.size) (J:Int) (o:J=((a.j+1:Nat):Int)):
  jx ((w2.setCell ⟨B0+1,0,none⟩ (.slice (some ⟨g,0,none⟩) (a.rc.length+d.length) cap)).setCell ⟨B0+3,2,none⟩ (.int .i64 J)) B0 B E {a with rc:=a.rc ++ d,j:=a.j+1} vR (.slice (some (aD g 0)) (a.rc.length+d.length) cap):=by
 subst o;have mi:=h.lo;obtain⟨e,f,i,l,m,n⟩:=h.grow q p is;refine⟨bZ (bZ e (by omega)) (by omega),bZ ((heap_setCell_same _ _ 0 _ _ _ f).trans (by simp)) (by omega),bZ (bZ i (by omega)) (by omega),?_,?_,?_,mi⟩
 .have:=heap_setCell_same _ _ 2 _ _ (iV ((a.j+1:Nat):Int)) (bZ (b:=B0+1) (j:=0) (u:= .slice (some (aD g 0)) (a.rc.length+d.length) cap) (l.trans h.d) (by omega));exact this.trans (by simp)
 .refine((m.xA (b:=B0+1) (by omega) 0 _).xA (b:=B0+3) (by omega) 2 _).low (bS _) (λk c=>?_);simp [Value.ownBlock] at c;exact c.symm
 .exact(n.xA (by omega) 0 _).xA (by omega) 2 _
def jx.whole {B:Nat} {a:SS} (h:jx W B0 B E a vR vr)
    (H:w2.ownsRow B 5 1 (.slice (some (aD g 0)) (a.rc.length+d.length) cap) (a.rc.length+d.length) (bs a.rc ++ bs d)) (p:W.grownBy w2 vr.ownBlock) (is:vr.ownBlock=some g\/g=W.heap.size) (R:B<=W.heap.size)
    (be:w2.ownsRow B 22 1 vR a.rs.length vs) (I1:∀i (t:i<a.rs.length),∃g c,vs[i]? =some (.slice (some (aD g 0)) (a.rs[i]).length c)/\ay w2 5 g c (bs a.rs[i])/\B<=g)
    (BA:w3.ownsRow B 22 1 (.slice (some (aD g' 0)) (a.rs.length+1) Q4) (a.rs.length+1) (vs ++ [.slice (some (aD g 0)) (a.rc.length+d.length) cap])) (xn:0<d.length) (o:Obj) (Fc:(w2.alloc o).grownBy w3 vR.ownBlock) (P:Nat) (Q:Int) (F:Q=(P:Int)):
  jx ((((w3.setCell ⟨B0,0,none⟩ (.slice (some ⟨g',0,none⟩) (a.rs.length+1) Q4)).setCell ⟨B0+1,0,none⟩ (.slice none 0 0)).setCell ⟨B0+2,0,none⟩ (.int .i64 Q)).setCell ⟨B0+3,2,none⟩ (.int .i64 0)) B0 B E {a with rs:=a.rs ++ [a.rc ++ d],rc:= [],hd:=P,j:=0} (.slice (some (aD g' 0)) (a.rs.length+1) Q4) (.slice none 0 0):=by
 subst F;have mi:=h.lo;obtain⟨w,z,A,C,O,D⟩:=h.grow H p is;have dM:∀k,k<B->vR.ownBlock≠some k:=λk m e=>by have:=ju be e;omega
 have l:∀k q,k<B->w2.heap[k]? =some q->w3.heap[k]? =some q:=λk q m f=>(Fc.block k (by have:=aq f;simp;omega) (λe=>dM k m e.symm)).trans ((Below.heap_alloc _ _ _ (aq f)).trans f);have n:B<=g:=by
  rcases is with is|is
  .exact ju h.rc is
  .omega
 have mN:ay w2 5 g cap (bs (a.rc ++ d)):=by
  obtain⟨N,e,_,_,I⟩:=D.row (by simp;omega);cases e;exact I
 have f:a.rc.length+d.length=(a.rc ++ d).length:=by simp
 rw [f] at BA;have ac5:=CD (W:=w2.alloc o) (W':=w3) (r:=a.rc ++ d) (dR be (λg p=>by
   obtain⟨cur,G⟩:=bz be p;exact Below.heap_alloc _ _ _ (aq G))) (λi t=>by
   obtain⟨x,y,u,s,v⟩:=I1 i t;exact⟨x,y,u,s.agree (Below.heap_alloc _ _ _ s.lt),v⟩) (mN.agree (Below.heap_alloc _ _ _ mN.lt)) n BA Fc
 have J:=l _ _ (by omega) w;have K:=l _ _ (by omega) z;have L:=l _ _ (by omega) A;have M:=l _ _ (by omega) (C.trans h.d);refine⟨?_,?_,?_,?_,?_,Own.nil _ _,mi⟩
 .exact bZ (bZ (bZ ((heap_setCell_same _ _ 0 _ _ _ J).trans (by simp)) (by omega)) (by omega)) (by omega)
 .exact bZ (bZ ((heap_setCell_same _ _ 0 _ _ _ (bZ K (by omega))).trans (by simp)) (by omega)) (by omega)
 .exact bZ ((heap_setCell_same _ _ 0 _ _ _ (bZ (bZ L (by omega)) (by omega))).trans (by simp)) (by omega)
 .exact(heap_setCell_same _ _ 2 _ _ _ (bZ (bZ (bZ M (by omega)) (by omega)) (by omega))).trans (by simp)
 .exact((((ac5.xA (b:=B0) (by omega) 0 _).xA (b:=B0+1) (by omega) 0 _).xA (b:=B0+2) (by omega) 0 _).xA (b:=B0+3) (by omega) 2 _).low (bS _) (λk m=>by simp [Value.ownBlock] at m)
section
def tV (ops:Array Oper):Bool:=ops.all λo=>match o.op with| .defer _=>false|_=>true
def D1 {a:Array Oper} (h:tV a=true) {o:Oper} (b:a[i]? =some o):∀c,o.op≠ .defer c:=by
 intro c e;have:=Array.all_eq_true_iff_forall_mem.1 h o (Array.mem_of_getElem? b);rw [e] at this;cases this
section
variable {P:Program} {ops:Array Oper} {Q:Exit->Act->World->Prop} {l n:Nat}
def NA {row:String} {args:Array Value} {R:Value->World->Prop} (h:Rows P row args w R):RowsIn (Fence.wide.inRound l) n P row args w R:=λc cs _=>by
 obtain⟨v,w',a,b⟩:=h c cs;exact⟨v,w',a,stepsIn_wide.2 b⟩
def zn {o:Oper} {a:Act} {K:Act->World->Prop} (LV:∀c,o.op≠ .defer c) (h:o.wp P a w K Q):o.wpIn (Fence.wide.inRound l) n P a w K Q:=by
 unfold Oper.wpIn;refine⟨λ_ _=>trivial,?_⟩;rw [Oper.semAt_eq _ _ _ LV];unfold Oper.wp at h;generalize (execOp a.eval o).run P w=r at*;cases r with
 |ok x w'=>
  cases x <;> simp only [Oper.upon,Oper.uponIn] at h⊢<;>
   first
    |exact h
    |exact⟨λh=>(by cases h),CallsIn.inRound l (callsIn_wide.2 h)⟩
    |exact⟨λh=>(by cases h),NA h⟩
    |exact h.elim
 |halt x w'=>cases x <;> simp only [Oper.upon,Oper.uponIn] at h⊢<;> exact h
def NB {a:Act} {K:Act->World->Prop} (hd:tV ops=true) (d:¬LetsOut Q) (h:wpOp P ops Q i K a w):wpOpIn (Fence.wide.inRound l) n P ops Q i K a w:=by
 unfold wpOp at h;unfold wpOpIn;cases b:ops[i]? with
 |none=>simp only [b] at h;exact h
 |some o=>
  simp only [b] at h⊢;split
  .rename_i c;simp only [c,if_true] at h;rcases h with h|h
   .exact zn (D1 hd b) h
   .exact absurd h.2 d
  .rename_i c;simp only [c] at h;exact⟨λ_ _=>trivial,h⟩
def sB {d:Region.Mode} (hd:tV ops=true) (c:¬LetsOut Q):∀(b:Nat) (Q5:Array Bool) (a:Act) (w:World),wpAny P d ops Q b Q5 a w->wpAnyIn (Fence.wide.inRound l) n P d ops Q b Q5 a w
 |0,_,_,_,h=>h
 |b+1,_listed,_a,_w,h=>⟨h.1,λi e=>wpOpIn_mono (λa w h=>sB hd c b _ a w h) (NB hd c (h.2 i e))⟩
def nH {c:Nat} {a:Act} {K:Act->World->Prop} {S:World->Prop} (b:P.follows .mixedOrders=true) (hd:tV ops=true) (h:wpAnyH P .any ops (Exit.then K (λ_ _ _=>False)) S ops.size (Array.replicate ops.size false) a w.drew):
    (Code.region c ops true).wpIn (Fence.wide.inRound l) n P (Exit.then K Q) a w:=
 wpIn_mono (wpIn_region_any b (sB hd (λ⟨_,_,h⟩=>h) _ _ _ _ (wpAny_of_held _ _ _ _ h))) (λe a w h=>by cases e <;> first|exact h|exact h.elim)
def eA {o:Oper} {a:Act} {K:Act->World->Prop} (s x:Operand) (t:TypeId) (b:o.op= .call {callee:= .builtin .append,args:= #[s,x],argTypes:= #[t,t]}) (v u r:Value) (d:a.eval s=v) (e:a.eval x=u)
    (c:(Builtin.append_ #[t,t] o.type #[v,u]).run P w= .ok r w') (h:K (a.put o.dst r) w'):o.wp P a w K Q:=by
 unfold Oper.wp execOp;simp only [b,resolve,invoke,builtin,Sem.run_bind,Sem.run_pure,Result.andThen_ok,List.map_toArray,List.map_cons,List.map_nil,d,e,c];exact h
def rD {o:Oper} {rest:List Oper} {a:Act} (f:o.guard=none) (s x:Operand) (t:TypeId) (b:o.op= .call {callee:= .builtin .append,args:= #[s,x],argTypes:= #[t,t]}) (v u r:Value) (i:a.eval s=v) (j:a.eval x=u)
    (g:(Builtin.append_ #[t,t] o.type #[v,u]).run P w= .ok r w') (h:wpListIn (Fence.wide.inRound l) n P ops Q rest (a.put o.dst r) w'):wpListIn (Fence.wide.inRound l) n P ops Q (o :: rest) a w:=
 wpListIn_plain f λ_ d=>zn (by rw [b];intro c e;cases e) (eA s x t b v u r i j g (d _ _ h))
end
end
section
open Go.RowKit Go.Shelf
attribute [local go_sem] Oper.semAt_some
def NC {B:Nat} (h:ii w B g n n R):∃(A:Nat->Option Addr) (C:Nat->Nat),∀i,i<n->w.rangeAt g (i*5) (eO ((R i).e:Int) ((R i).p:Int) ((R i).i:Int) ((R i).c:Int) (A i) (R i).d.length (C i)).toList/\Src w (A i) (R i).d.length (R i).d:=by
 have b:=λi (a:i<n)=>(h.2 i a).range;refine⟨λi=>if a:i<n then Classical.choose (b i a) else none,λi=>if a:i<n then Classical.choose (Classical.choose_spec (b i a)) else 0,λi a=>?_⟩;simp only [a,dite_true];have:=Classical.choose_spec (Classical.choose_spec (b i a));exact⟨this.1,this.2.1⟩
def ND (w:World) (a b c d f g:Obj):((((((w.alloc a).alloc b).alloc c).alloc d).alloc f).alloc g).heap[w.heap.size]? =some a/\((((((w.alloc a).alloc b).alloc c).alloc d).alloc f).alloc g).heap[w.heap.size+1]? =some b/\((((((w.alloc a).alloc b).alloc c).alloc d).alloc f).alloc g).heap[w.heap.size+2]? =some c/\
    ((((((w.alloc a).alloc b).alloc c).alloc d).alloc f).alloc g).heap[w.heap.size+3]? =some d/\((((((w.alloc a).alloc b).alloc c).alloc d).alloc f).alloc g).heap[w.heap.size+1+1+1+1]? =some f/\((((((w.alloc a).alloc b).alloc c).alloc d).alloc f).alloc g).heap[w.heap.size+1+1+1+1+1]? =some g:=by
 have e:((((((w.alloc a).alloc b).alloc c).alloc d).alloc f).alloc g).heap=(((((w.heap.push a).push b).push c).push d).push f).push g:=rfl;rw [e];refine⟨?_,?_,?_,?_,?_,?_⟩
 .rw [Array.getElem?_push,aB (by simp;omega),Array.getElem?_push,aB (by simp;omega),Array.getElem?_push,aB (by simp;omega),Array.getElem?_push,aB (by simp;omega),Array.getElem?_push,aB (by simp),Array.getElem?_push,aG rfl]
 .rw [Array.getElem?_push,aB (by simp),Array.getElem?_push,aB (by simp),Array.getElem?_push,aB (by simp),Array.getElem?_push,aB (by simp),Array.getElem?_push,aG (by simp)]
 .rw [Array.getElem?_push,aB (by simp),Array.getElem?_push,aB (by simp),Array.getElem?_push,aB (by simp),Array.getElem?_push,aG (by simp)]
 .rw [Array.getElem?_push,aB (by simp),Array.getElem?_push,aB (by simp),Array.getElem?_push,aG (by simp)]
 .rw [Array.getElem?_push,aB (by simp),Array.getElem?_push,aG (by simp)]
 .rw [Array.getElem?_push,aG (by simp)]
def tT.split {xs:List (Fin n)} {x:Fin n} (h:tT (xs ++ [x]) (k+1)):xs.map Fin.val=List.range k/\x.1=k:=by
 unfold tT at h;rw [List.map_append,List.range_succ] at h;obtain⟨a,b⟩:=List.append_inj' h rfl;exact⟨a,by simpa using b⟩
def Mh (w w':World) (R:Nat->PC) (E T n:Nat) (e:Ending):Prop:=∃v h rs,e= .returned (.tuple #[v, .int .i64 ((h:Nat):Int)])/\dQ w' w.heap.size v rs (λ_=>False)/\dF (Rp R n) E T rs h/\(∀c d,¬Rec (Rp R n) E h c d)/\Below w.heap.size w w'
def Gk {B D T:Nat} {f:List Deferred} (h:dQ W B v rs X) (j:w.heap.size<=B) (a:Below w.heap.size w W) (g:W.heap[D]? =some (.deferred (some f))) (l:w.heap.size<=D) (i:dF (Rp R n) E T rs hd/\∀c d,¬Rec (Rp R n) E hd c d):
  Mh w (W.drew.putObj D (.deferred none)) R E T n (.returned (.tuple #[v, .int .i64 ((hd:Nat):Int)])):=by
 have k:kz W (W.drew.putObj D (.deferred none)):=λb cur t m a=>by
  have dM:b≠D:=λe=>by rw [e,g] at a;cases a
  exact(World.putObj_heap_other dM).trans a
 refine⟨v,hd,rs,rfl,(h.cells k).low j (λ_ h=>h.elim),i.1,i.2,?_⟩;exact(ai a).trans (belowK_b (w:=w) (bS _) W.drew D (.deferred (some f)) (.deferred none) l g rfl rfl)
def qT {B:Nat} {e:List Int} (aA:Own W B v e) {a:Option Addr} (c:Nat) (f:Src W a n d) (hd:0<n) (k:e.length+n<=1000000) (r:B<=W.heap.size):
  ∃g cap w',(Builtin.append_ #[22,22] 22 #[v, .slice a n c]).run prog W= .ok (.slice (some ⟨g,0,none⟩) (e.length+d.length) cap) w'/\w'.ownsRow B 5 1 (.slice (some ⟨g,0,none⟩) (e.length+d.length) cap) (e.length+d.length) (bs e ++ bs d)/\W.grownBy w' v.ownBlock/\(v.ownBlock=some g\/g=W.heap.size):=by
 obtain⟨w,s,gB,dC,eu⟩:=info_parts gh;obtain⟨b,o,rfl⟩:=cX f hd;have i:=f.1;obtain⟨g,cap,w',l,m,p,q,_⟩:=run_append_lies (P:=prog) W 22 22 B 5 w (.int .u8 0) 1 1 underlying22 s gB dC eu rfl (by decide) v e.length (bs e) aA ⟨b,o,none⟩ n c (bs d) (by simp [bs,i]) (λj u t=>by
   obtain⟨Zg,rfl⟩:=fx t;exact f.2.2 _ rfl j (by omega)) (cF d) hd (by unfold maxLen;omega) (by omega) r W.heap.size rfl
 rw [i];exact⟨g,cap,w',l,m,p,q⟩
def Mi {B:Nat} (be:W.ownsRow B 22 1 v k vs) (x:Value) (i:x.oneCell'=true) (m:k<=1000000) (l:B<=W.heap.size):
  ∃g cap w',(Builtin.append_ #[79,79] 79 #[v, .slice (some ⟨W.heap.size,0,none⟩) 1 1]).run prog (W.alloc (.cells #[x] 22))= .ok (.slice (some ⟨g,0,none⟩) (k+1) cap) w'/\w'.ownsRow B 22 1 (.slice (some ⟨g,0,none⟩) (k+1) cap) (k+1) (vs ++ [x])/\(W.alloc (.cells #[x] 22)).grownBy w' v.ownBlock:=by
 obtain⟨j,f,gB,dC,eu⟩:=info_parts tt;obtain⟨g,cap,w',a,b,c,_,_⟩:=run_append_lies (P:=prog) (W.alloc (.cells #[x] 22)) 79 79 B 22 j (.slice none 0 0) 1 24 underlying79 f gB dC eu rfl (by decide) v k vs (dR be (λg e=>by
   obtain⟨cur,d⟩:=bz be e;exact Below.heap_alloc _ _ _ (aq d))) ⟨W.heap.size,0,none⟩ 1 1 [x] rfl (World.news_of_block (cs:= #[x]) (t:=22) (fr:=(0,0)) (heap_alloc_new W _)) (by simpa using i) (by omega) (by unfold maxLen;omega) (by omega) (by simp;omega) _ rfl
 exact⟨g,cap,w',a,b,c⟩
def XN (R:Nat->PC) (E T n x:Nat) (st:SS) (y Bx:Nat) (a:Option Addr) (k:Nat) (vR vr:Value) (w W:World) (e:Ending) (W2:World):Prop:=
 ∃(b:Bool) (c:Nat),e= .returned (.bool b)/\b=st.tR R E T n x/\c=st.due R T n x/\jx W2 w.heap.size (w.heap.size+6) E {st with ps:=T+x,j:=st.j,c:=c} vR vr/\iC w.heap.size w W W2/\W2.heap[Bx]? =some (.cells (eO ((R y).e:Int) ((R y).p:Int) ((R y).i:Int) ((R y).c:Int) a (R y).d.length k) 229 (0,0))
def CE {F:Fence} {P:Program} {c:Code} {K:Act->World->Prop} {Q:Exit->Act->World->Prop} {a:Act} (h:c.wpIn F n P (Exit.then K (λ_ _ _=>False)) a w):c.wpIn F n P (Exit.then K Q) a w:=
 wpIn_mono h (λe a w h=>by cases e <;> first|exact h|exact h.elim)
def zq {row:Option Nat} (h:Below w.heap.size w W) (a:W.grownBy W' row) (b:∀r,row=some r->w.heap.size<=r):Below w.heap.size w W':=h.grown a h.size (λk e=>b k e)
def pW {row:Option Nat} {t:TypeId} (d:W.grownBy W' row) (f:∀r,row=some r->∃cur,W.heap[r]? =some (.cells cur t (0,0))) {b:Nat} {a:Nat×Nat} (h:W.heap[b]? =some (.cells cur' t' a)) (dM:t≠t'):W'.heap[b]? =some (.cells cur' t' a):=
   (d.block b (aq h) (λe=>by
  obtain⟨cur,c⟩:=f b e.symm;exact tU c h dM)).trans h
set_option maxRecDepth 100000 in
def Q6 (g n E T:Nat) (R:Nat->PC) (w:World) (B:Nat) (hr:ii w B g n n R) (jk:1<=n) (hn:n<=256) (hT:T<=1073741824) (_hE:E<=1073741824) (Uv:∀i,(R i).d.length<=492) (Gl:∀i,(R i).c<=65536):
  Calls prog 153 #[.slice (some ⟨g,0,none⟩) n n, .int .i64 (E:Int), .int .i64 (T:Int)] w λe w'=>Mh w w' R E T n e:=by
 refine(callsIn_wide (n:=6)).1 ?_;refine callsIn_of_wp_marks func153 rfl trivial ?_ rfl;simp only [ntmps153,List.size_toArray,List.length_cons,List.length_nil,Nat.reduceAdd,Nat.reduceSub,Array.replicate_succ,Array.replicate_zero,List.push_toArray,List.append_toArray,List.nil_append,List.cons_append]
 gi_wp2
 refine(wpIn_wide (n:=6)).2 (wp_scope_straight ((wpIn_wide (n:=6)).1 ?_))
 gi_wp2
 refine wpIn_label ?_
 gi_wp2_with (refine⟨trivial,?_⟩;gi_at_call 190;refine(callsIn_wide.2 (Uc g n T _)).mono ?_;rintro e w' ⟨rfl,rfl⟩)
 obtain⟨U,J2⟩:∃U,((((((w.alloc (.cells #[.slice none 0 0] 79)).alloc (.cells #[.slice none 0 0] 22)).alloc (.cells #[.int .i64 (T:Int)] 3)).alloc (.cells #[.int .i64 (E:Int), .int .i64 0, .int .i64 0, .int .i64 0] 227)).alloc (.cells #[.slice (some ⟨g,0,none⟩) n n] 186)).alloc (.cells #[.int .i64 (T:Int)] 3))=U:=⟨_,rfl⟩;rw [J2];have eE:U.heap.size=w.heap.size+6:=by rw [<-J2];simp
 have fO:Below w.heap.size w U:=by rw [<-J2];exact((((((bi _ w).alloc (bS _) _).alloc (by simp) _).alloc (by simp;omega) _).alloc (by simp;omega) _).alloc (by simp;omega) _).alloc (by simp;omega) _
 have iq:jx U w.heap.size (w.heap.size+6) E (SS.start T) (.slice none 0 0) (.slice none 0 0)/\U.heap[w.heap.size+1+1+1+1]? =some (.cells #[.slice (some ⟨g,0,none⟩) n n] 186 (0,0))/\U.heap[w.heap.size+1+1+1+1+1]? =some (.cells #[.int .i64 (T:Int)] 3 (0,0)):=by
  rw [<-J2];obtain⟨s1,s2,s3,s4,s5,s6⟩:=ND w (.cells #[.slice none 0 0] 79) (.cells #[.slice none 0 0] 22) (.cells #[.int .i64 (T:Int)] 3) (.cells #[.int .i64 (E:Int), .int .i64 0, .int .i64 0, .int .i64 0] 227) (.cells #[.slice (some ⟨g,0,none⟩) n n] 186) (.cells #[.int .i64 (T:Int)] 3);exact⟨⟨s1,s2,s3,s4,dQ.nil _ _ _,Own.nil _ _,bS _⟩,s5,s6⟩
 obtain⟨A,C,hAC⟩:=NC hr;clear J2;refine wpIn_rangeFunc_ownH rfl (by omega) (gf:=224) (lb:= #[.pointer (some ⟨w.heap.size+1+1+1+1,0,none⟩), .pointer (some ⟨w.heap.size+1+1+1+1+1,0,none⟩)]) rfl trivial (enters_of func224 (by kernel_rfl) rfl)
    (LI (6-1) (by omega) (w.heap.size+1+1+1+1) (w.heap.size+1+1+1+1+1) w.heap.size g n T R A C jk hn hT U (by omega) iq.2.1 iq.2.2 ⟨hr.lt,λi O j v hv=>(fO.cell (p:=⟨g,i*5+j,none⟩) hr.lt).trans ((hAC i O).1 j v hv)⟩) Gh.t (Gh.b (by omega) (by omega) (by omega)) (bi _ _) (λ_=>rfl)
    (λu W=>∃a G z,sx R E T n (u.map Fin.val) (SS.start T)=some a/\jx W w.heap.size (w.heap.size+6) E a G z/\Below w.heap.size w W/\w.heap.size+6<=W.heap.size)
    (λc u W=>c= .exit 0/\∃Q7 x a ps c' G z,u=Q7 ++ [x]/\sx R E T n (Q7.map Fin.val) (SS.start T)=some a/\a.tR R E T n x.1=false/\jx W w.heap.size (w.heap.size+6) E {a with ps:=ps,c:=c'} G z/\Below w.heap.size w W)
  ?hI ?hIx ⟨_,_,_,rfl,iq.1,fO,by omega⟩
    (λx a' W=>∃q,w.heap.size+6<=q/\W.heap[q]? =some (.cells (eO ((R ((T+x.1)%n)).e:Int) ((R ((T+x.1)%n)).p:Int) ((R ((T+x.1)%n)).i:Int) ((R ((T+x.1)%n)).c:Int) (A ((T+x.1)%n)) (R ((T+x.1)%n)).d.length (C ((T+x.1)%n))) 229 (0,0))/\a'={tmps:= #[Value.slice (some ⟨g,0,none⟩) n n, .int .i64 (E:Int), .int .i64 (T:Int),undef,undef,undef, .slice none 0 0, .int .i64 0, .pointer (some ⟨w.heap.size,0,none⟩), .pointer (some ⟨w.heap.size+1,0,none⟩), .pointer (some ⟨w.heap.size+1+1,0,none⟩), .pointer (some ⟨w.heap.size+1+1+1,0,none⟩), .int .i64 ((T:Int)+(x.1:Int)), .pointer (some ⟨q,0,none⟩), .int .i64 (T:Int), .int .i64 (E:Int), .agg #[.int .i64 (E:Int), .int .i64 0, .int .i64 0, .int .i64 0], .slice (some ⟨g,0,none⟩) n n, .int .i64 (T:Int), .func (.func 224) #[] #[.pointer (some ⟨w.heap.size+1+1+1+1,0,none⟩), .pointer (some ⟨w.heap.size+1+1+1+1+1,0,none⟩)], .int .i64 ((T:Int)+(x.1:Int)),lf ((R ((T+x.1)%n)).e:Int) ((R ((T+x.1)%n)).p:Int) ((R ((T+x.1)%n)).i:Int) ((R ((T+x.1)%n)).c:Int) (A ((T+x.1)%n)) (R ((T+x.1)%n)).d.length (C ((T+x.1)%n)),undef,undef,undef,undef,undef,undef,undef,undef,undef,undef,undef,undef,undef,undef,undef,undef,undef,undef,undef,undef,undef,undef,undef,undef,undef,undef,undef,undef,undef,undef,undef,undef,undef,undef,undef,undef,undef,undef],defers:= []}) ?hAx ?assign ?body ?done ?stop
 case hI=>
  rintro s X Y row ⟨a,G,z,H,m,I,J⟩ N be;exact⟨a,G,z,H,m.cells (jf N (λr e=>(be r e).2)),zq I N (λr e=>by have:=(be r e).1;omega),j3 J N.size⟩
 case hIx=>
  rintro c s X Y row ⟨L,Q7,x,a,ps,c',G,z,h0,H,m,I,J⟩ N be;exact⟨L,Q7,x,a,ps,c',G,z,h0,H,m,I.cells (jf N (λr e=>(be r e).2)),zq J N (λr e=>by have:=(be r e).1;omega)⟩
 case hAx=>
  rintro x a' s X Y row ⟨q,H,m,I⟩ N be;exact⟨q,H,jf N (λr e=>(be r e).2) _ _ _ _ m,I⟩
 case assign=>
  rintro l u x W K ⟨a,G,z,H,m,I,J⟩ f;simp only [VA]
  gi_wp2
  exact f _ _ ((KeepsOthers.alloc _ _).from _) ⟨(bi _ W).alloc (by omega) _,Below.heap_alloc _ _ _ (by omega),Below.heap_alloc _ _ _ (by omega)⟩ ⟨a,G,z,H,m.cells (ez (aJ _ _)),I.trans ((aJ _ _).mono (by omega)),by simp;omega⟩ ⟨W.heap.size,by omega,heap_alloc_new _ _,rfl⟩
 case body=>
  rintro l u x a' W hl ⟨rr,I2⟩ ⟨a,G,z,H,m,I,J⟩ ⟨q,hBx,NE,rfl⟩ bq;have lz:=zk R E T n Uv Gl u.length (u.map Fin.val) a (by simp) H;have hx:=x.2;have hyn:(T+x.1)%n<n:=Nat.mod_lt _ jk;obtain⟨y,hy⟩:=bQ ((T+x.1)%n);have I3:a.tR R E T n x.1=Gf (R y) E (T+x.1) a.j (a.due R T n x.1):=by unfold SS.tR;rw [<-hy]
  have VB:a.due R T n x.1=if a.j=0 then (R y).c else a.c:=by unfold SS.due;rw [<-hy]
  have Zy:a.next R T n x.1=if (R y).i+1=(R y).c then ⟨a.rs ++ [a.rc ++ (R y).d], [],T+x.1+1,T+x.1,0,a.due R T n x.1⟩ else ⟨a.rs,a.rc ++ (R y).d,a.hd,T+x.1,a.j+1,a.due R T n x.1⟩:=by unfold SS.next;rw [<-hy]
  rw [<-hy] at hyn NE;simp only [<-hy];have HNx:=yh Zy;have ac6:Yh (∀c,c=a.due R T n x.1->a.tR R E T n x.1=Gf (R y) E (T+x.1) a.j c):=λc L=>by rw [L];exact I3
  have vl:((T+x.1:Nat):Int)=(T:Int)+(x.1:Int):=by omega
  have d1:W.cell? ⟨w.heap.size+1+1+1,1,none⟩=some (.int .i64 (a.ps:Int)):=bG m.d;have d2:W.cell? ⟨w.heap.size+1+1+1,2,none⟩=some (.int .i64 (a.j:Int)):=bK m.d;have d0:W.cell? ⟨w.heap.size+1+1+1,0,none⟩=some (.int .i64 (E:Int)):=aM m.d;have d3:W.cell? ⟨w.heap.size+1+1+1,3,none⟩=some (.int .i64 (a.c:Int)):=fQ m.d;have df:∀j,W.frozen? ⟨w.heap.size+1+1+1,j,none⟩=false:=λj=>ae m.d j;have p0:W.cell? ⟨q,0,none⟩=some (.int .i64 ((R y).e:Int)):=aM NE;have p1:W.cell? ⟨q,1,none⟩=some (.int .i64 ((R y).p:Int)):=bG NE;have p2:W.cell? ⟨q,2,none⟩=some (.int .i64 ((R y).i:Int)):=bK NE;have p3:W.cell? ⟨q,3,none⟩=some (.int .i64 ((R y).c:Int)):=fQ NE;have p4:W.cell? ⟨q,4,none⟩=some (.slice (A y) (R y).d.length (C y)):=gG NE;have dM:q≠w.heap.size+1+1+1:=by omega
  have HS:=yh eE;by_cases hj:a.j=0
  case' pos=>
   have d2':W.cell? ⟨w.heap.size+1+1+1,2,none⟩=some (.int .i64 0):=(by rw [d2,hj];rfl);clear d2;have Q9:a.due R T n x.1=(R y).c:=(by rw [VB,aG hj]);have bN:jx ((W.setCell ⟨w.heap.size+1+1+1,1,none⟩ (.int .i64 ((T:Int)+(x.1:Int)))).setCell ⟨w.heap.size+1+1+1,3,none⟩ (.int .i64 ((R y).c:Int))) w.heap.size (w.heap.size+6) E {a with ps:=T+x.1,j:=a.j,c:=(R y).c} G z:=m.set ((aL (F:=λk=>k=w.heap.size+3) W rfl 1 _).trans (aL (F:=λk=>k=w.heap.size+3) _ rfl 3 _) (λ_ h=> .inl h)) (T+x.1) a.j (R y).c ((heap_setCell_same _ _ 3 _ _ _ (heap_setCell_same _ _ 1 _ _ _ m.d)).trans (by simp [hj]));have ff:iC w.heap.size w W ((W.setCell ⟨w.heap.size+1+1+1,1,none⟩ (.int .i64 ((T:Int)+(x.1:Int)))).setCell ⟨w.heap.size+1+1+1,3,none⟩ (.int .i64 ((R y).c:Int))):=((iC.start I).set rfl (by omega) (by omega) 1 _).set rfl (by omega) (by omega) 3 _;have o9:(((W.setCell ⟨w.heap.size+1+1+1,1,none⟩ (.int .i64 ((T:Int)+(x.1:Int)))).setCell ⟨w.heap.size+1+1+1,3,none⟩ (.int .i64 ((R y).c:Int)))).heap[q]? =some (.cells (eO ((R y).e:Int) ((R y).p:Int) ((R y).i:Int) ((R y).c:Int) (A y) (R y).d.length (C y)) 229 (0,0)):=bZ (bZ NE (by omega)) (by omega);rw [Q9] at I3;have XO:=CallsIn.inRound l (callsIn_wide (n:=3).2 ((Q3 (R y) (A y) (C y) E (T+x.1) a.j (R y).c ((W.setCell ⟨w.heap.size+1+1+1,1,none⟩ (.int .i64 ((T:Int)+(x.1:Int)))).setCell ⟨w.heap.size+1+1+1,3,none⟩ (.int .i64 ((R y).c:Int)))).mono (λe M h=>show XN R E T n x.1 a y q (A y) (C y) G z w W e M from ⟨_,_,h.1,I3.symm,Q9.symm,bN.cells (ez h.2),ff.below rfl J h.2,(h.2.block _ (aq o9)).trans o9⟩)));rw [vl] at XO;rw [show (a.j:Int)=0 by omega] at XO;clear m I NE bN ff o9 I3 VB Q9 hy hj I2 Zy eE iq fO vl hr
   gi_wp2_with fail
   refine⟨trivial,?_⟩;refine XO.mono ?_;rintro e M ⟨b,c,rfl,I3,Q9,eR,aY,uV⟩;clear XO
  case' neg=>
   have AZ:((a.j:Int) == 0)=false:=(by rw [fJ];omega);have Q9:a.due R T n x.1=a.c:=(by rw [VB,aB hj]);have bN:jx (W.setCell ⟨w.heap.size+1+1+1,1,none⟩ (.int .i64 ((T:Int)+(x.1:Int)))) w.heap.size (w.heap.size+6) E {a with ps:=T+x.1,j:=a.j,c:=a.c} G z:=m.set (aL (F:=λk=>k=w.heap.size+3) W rfl 1 _) (T+x.1) a.j a.c ((heap_setCell_same _ _ 1 _ _ _ m.d).trans (by simp));have ff:iC w.heap.size w W (W.setCell ⟨w.heap.size+1+1+1,1,none⟩ (.int .i64 ((T:Int)+(x.1:Int)))):=(iC.start I).set rfl (by omega) (by omega) 1 _;have o9:((W.setCell ⟨w.heap.size+1+1+1,1,none⟩ (.int .i64 ((T:Int)+(x.1:Int))))).heap[q]? =some (.cells (eO ((R y).e:Int) ((R y).p:Int) ((R y).i:Int) ((R y).c:Int) (A y) (R y).d.length (C y)) 229 (0,0)):=bZ NE (by omega);rw [Q9] at I3;have XO:=CallsIn.inRound l (callsIn_wide (n:=3).2 ((Q3 (R y) (A y) (C y) E (T+x.1) a.j a.c (W.setCell ⟨w.heap.size+1+1+1,1,none⟩ (.int .i64 ((T:Int)+(x.1:Int))))).mono (λe M h=>show XN R E T n x.1 a y q (A y) (C y) G z w W e M from ⟨_,_,h.1,I3.symm,Q9.symm,bN.cells (ez h.2),ff.below rfl J h.2,(h.2.block _ (aq o9)).trans o9⟩)));rw [vl] at XO;clear m I NE bN ff o9 I3 VB Q9 hy hj I2 Zy eE iq fO vl hr
   gi_wp2_with fail
   refine⟨trivial,?_⟩;refine XO.mono ?_;rintro e M ⟨b,c,rfl,I3,Q9,eR,aY,uV⟩;clear XO
  all_goals
   obtain⟨dP,ig,P,HGo,HDc⟩:=UV eR aY uV I3 Q9;have q0:M.cell? ⟨q,0,none⟩=some (.int .i64 ((R y).e:Int)):=aM uV;have q1:M.cell? ⟨q,1,none⟩=some (.int .i64 ((R y).p:Int)):=bG uV;have q2:M.cell? ⟨q,2,none⟩=some (.int .i64 ((R y).i:Int)):=bK uV;have q3:M.cell? ⟨q,3,none⟩=some (.int .i64 ((R y).c:Int)):=fQ uV;clear eR aY uV I3 Q9 d0 d1 d3 df p0 p1 p2 p3 p4;cases b
   .gi_wp2
    exact⟨HS.o▸ig.o.k,rfl,u,x,a,T+x.1,c,G,z,rfl,H,HGo.o.symm,dP.o,ig.o.b⟩
   .have hq:=D0.1 (HGo.o.trans (ac6.o c HDc.o)).symm;have xn:=hq.1.2.2.2.2.1;have qN:=Uv y;have yw:=Gl y;have Jo:=CallsIn.inRound l (callsIn_wide (n:=3).2 (Gg (R y).e (R y).p (R y).i (R y).c M (by omega)));have ie:=CC R E T n _ _ _ x.1 H HGo.o.symm;rw [HNx.o,<-HDc.o,show u.map Fin.val ++ [x.1]=(u ++ [x]).map Fin.val by simp] at ie;have VC:=yh ie;clear ie hq;by_cases O:(R y).i+1=(R y).c
    .rw [aG O] at VC;rw [show decide ((R y).i+1=(R y).c)=true by rw [decide_eq_true_eq];exact O] at Jo;clear O
     gi_wp2_with fail
     refine⟨trivial,?_⟩;refine Jo.mono ?_;rintro e Q ⟨rfl,bF⟩;have aZ:=ig.o.below rfl J bF;have ly:=aZ.k.size;have xB:=(dP.o.cells (ez bF)).cells (ez (ai (bi Q.heap.size Q)));have VD:=aZ.below rfl J (ai (bi Q.heap.size Q));obtain⟨W4,xC⟩:=bQ Q.drew;have Rc:W4.heap[q]? =Q.heap[q]? :=(by rw [xC];rfl);rw [((bF.block _ (aq P.o)).trans P.o)] at Rc;rw [<-xC] at xB VD;have ac7:w.heap.size+6<=W4.heap.size:=(by rw [xC];show _<=Q.heap.size;omega);obtain⟨g4,D2,Z,wq,Fg,Gm,D3⟩:=qT xB.rc (C y) ((hAC y hyn).2.later VD.b) xn (by show a.rc.length+_<=_;omega) ac7;have tW:=xB.grow Fg Gm D3;have wk:=Gm.size;have dW:=VD.grown rfl J Gm (λr e=>by
      obtain⟨cur,L⟩:=bz xB.rc e;exact⟨ju xB.rc e,cur,_,L⟩)
     have VE:=pW Gm (λr e=>bz xB.rc e) Rc (by decide);obtain⟨vs,be,I1⟩:=tW.2.2.2.2.1;have ah6:a.rs.length<=1000000:=(by omega);obtain⟨g5,NF,w5,nI,Bv,Gn⟩:=Mi be (.slice (some ⟨g4,0,none⟩) (a.rc.length+(R y).d.length) D2) rfl ah6 (by omega);obtain⟨W6,Fi⟩:=bQ (Z.alloc (.cells #[.slice (some ⟨g4,0,none⟩) (a.rc.length+(R y).d.length) D2] 22));have jD:iC w.heap.size w W W6:=dW.below rfl J (by rw [Fi];exact aJ _ _);have J3:kz Z W6:=(by rw [Fi];exact ez (aJ _ _));have Mj:=J3 _ _ _ _ VE;have ws:=dR (W':=W6) be (λg N=>by
      obtain⟨cur,L⟩:=bz be N;rw [J3 _ _ _ _ L,L])
     rw [<-Fi] at nI;have VF:W6.grownBy w5 G.ownBlock:=(by rw [Fi];exact Gn);have gO:=jD.grown rfl J VF (λr e=>by
      obtain⟨cur,L⟩:=bz ws e;exact⟨ju ws e,cur,_,L⟩)
     have hp7:=pW VF (λr e=>bz ws e) Mj (by decide);have BC:∀k cur t fz,k<w.heap.size+6->Z.heap[k]? =some (Obj.cells cur t fz)->w5.heap[k]? =some (Obj.cells cur t fz):=λk cur t fz hk hl=>(VF.block k (aq (J3 _ _ _ _ hl)) (λe=>by have:=ju ws e.symm;omega)).trans (J3 _ _ _ _ hl);have Fh:=xB.whole Fg Gm D3 ac7 be (λi O=>by
      obtain⟨x1,x2,x3,x4,x5,_⟩:=I1 i O;exact⟨x1,x2,x3,x4,x5⟩) Bv xn _ Gn (T+x.1+1) ((T:Int)+(x.1:Int)+1) (by omega)
     have jV:=((((gO.set rfl (b:=w.heap.size) (by omega) (by omega) 0 (.slice (some ⟨g5,0,none⟩) (a.rs.length+1) NF)).set rfl (b:=w.heap.size+1) (by omega) (by omega) 0 (.slice none 0 0)).set rfl (b:=w.heap.size+1+1) (by omega) (by omega) 0 (.int .i64 ((T:Int)+(x.1:Int)+1))).set rfl (b:=w.heap.size+1+1+1) (by omega) (by omega) 2 (.int .i64 0));have gY:Yh (∀W':World,W'.heap[w.heap.size+1]? =some (.cells #[z] 22 (0,0))->W'.heap[q]? =some (.cells (eO ((R y).e:Int) ((R y).p:Int) ((R y).i:Int) ((R y).c:Int) (A y) (R y).d.length (C y)) 229 (0,0))->(W'.cell? ⟨w.heap.size+1,0,none⟩=some z/\W'.cell? ⟨q,4,none⟩=some (.slice (A y) (R y).d.length (C y)))):=λW' H m=>⟨aM H,gG m⟩;obtain⟨S4,S5,S6⟩:=kF (gY.o W4 xB.c Rc) (gY.o Z tW.2.1 VE) (gY.o W6 (J3 _ _ _ _ tW.2.1) Mj);have S7:=yh (gY.o w5 (BC _ _ _ _ (by omega) tW.2.1) hp7);have S8:=yh (gY.o (w5.setCell ⟨w.heap.size,0,none⟩ (.slice (some ⟨g5,0,none⟩) (a.rs.length+1) NF)) (bZ (BC _ _ _ _ (by omega) tW.2.1) (by omega)) (bZ hp7 (by omega)));have b4:=xB.r.cell;have b5:=tW.1.cell;have b6:W6.cell? ⟨w.heap.size,0,none⟩=some G:=aM (J3 _ _ _ _ tW.1);have b7:w5.cell? ⟨w.heap.size,0,none⟩=some G:=aM (BC _ _ _ _ (by omega) tW.1);have f7:=ae (BC _ _ _ _ (by omega) tW.1) 0;have cf7:=ae (BC _ _ _ _ (by omega) tW.2.1) 0;have d7:w5.cell? ⟨w.heap.size+1+1,0,none⟩=some (.int .i64 (a.hd:Int)):=aM (BC _ _ _ _ (by omega) tW.2.2.1);have df7:w5.frozen? ⟨w.heap.size+1+1,0,none⟩=false:=ae (BC _ _ _ _ (by omega) tW.2.2.1) 0;have e7:w5.cell? ⟨w.heap.size+1+1+1,2,none⟩=some (.int .i64 (a.j:Int)):=bK (BC _ _ _ _ (by omega) (tW.2.2.2.1.trans xB.d));have ef7:w5.frozen? ⟨w.heap.size+1+1+1,2,none⟩=false:=ae (BC _ _ _ _ (by omega) (tW.2.2.2.1.trans xB.d)) 2;have Uu:prog.follows .mixedOrders=true:=(by kernel_rfl);obtain⟨HW,Pp,HZ8,VG,HR5,HW6,IY⟩:=acl Fh jV (j3 J jV.k.size) wq nI Fi xC;clear bF aZ VD dW jD gO jV Fh tW Fg Gm D3 Jo wq nI Bv Gn VF be ws I1 J3 BC Rc VE Mj hp7 xB xC Fi gY
     gi_wp2_with fail
     refine nH (S:=λW'=>W'.cell? ⟨w.heap.size+1,0,none⟩=some z/\W'.cell? ⟨q,4,none⟩=some (.slice (A y) (R y).d.length (C y))) Uu (by kernel_rfl) ?_;rw [<-IY.o];refine wpAnyH_take (i:=1) (v:=z) rfl (by kernel_rfl) (by kernel_rfl) (by kernel_rfl) (λ_ _ _ h=>h) (Or.inl ⟨by rfl,?_⟩) S4.out ?_
     .rintro W1 ⟨y1,y2⟩;go_simp
     try simp only [Act.put,List.setIfInBounds_toArray]
     refine wpAnyH_take (i:=2) (v:= .pointer (some ⟨q,4,none⟩)) rfl (by kernel_rfl) (by kernel_rfl) (by kernel_rfl) (λ_ _ _ h=>h) (Or.inl ⟨by rfl,?_⟩) S4.out ?_
     .rintro W1 ⟨y1,y2⟩;go_simp
     try simp only [Act.put]
     refine wpAnyH_take (i:=3) (v:= .slice (A y) (R y).d.length (C y)) rfl (by kernel_rfl) (by kernel_rfl) (by kernel_rfl) (λ_ _ _ h=>h) (Or.inl ⟨by rfl,?_⟩) S4.out ?_
     .rintro W1 ⟨y1,y2⟩;go_simp
     try simp only [Act.put]
     refine wpAnyH_ready (rs:= [0,4]) (by kernel_rfl) (by simp) (AllReadyH.cons rfl (λK f=>?_) (AllReadyH.cons rfl (λK f=>?_) AllReadyH.nil))
     .skip
      go_simp;refine f.out _ _ S4.out (λ_=>?_);clear f K;try simp only [Act.put,List.setIfInBounds_toArray,List.set_cons_zero,List.set_cons_succ]
      refine wpAnyH_ready (rs:= [4]) (by kernel_rfl) (by simp) (AllReadyH.cons rfl (λK f=>?_) AllReadyH.nil);rw [aG (by rfl)];refine eA _ _ 22 rfl _ _ _ rfl rfl VG.o ?_;refine f.out _ _ S5.out (λ_=>?_);clear f K;try simp only [Act.put,List.setIfInBounds_toArray]
      refine wpAnyH_ready (rs:= [5]) (by kernel_rfl) (by simp) (AllReadyH.cons rfl (λK f=>?_) AllReadyH.nil);go_simp;rw [<-HW6.o];refine f.out _ _ S6.out (λ_=>?_);clear f K;try simp only [Act.put,List.setIfInBounds_toArray,List.set_cons_zero,List.set_cons_succ]
      refine wpAnyH_ready (rs:= [6]) (by kernel_rfl) (by simp) (AllReadyH.cons rfl (λK f=>?_) AllReadyH.nil);rw [aG (by rfl)];refine eA _ _ 79 rfl _ _ _ rfl rfl HR5.o ?_;refine f.out _ _ S7.out (λ_=>?_);clear f K;try simp only [Act.put,List.setIfInBounds_toArray]
      refine wpAnyH_ready (rs:= [7]) (by kernel_rfl) (by simp) (AllReadyH.cons rfl (λK f=>?_) AllReadyH.nil);go_simp;refine f.out _ _ S8.out (λ_=>?_);clear f K;try simp only [Act.put,List.setIfInBounds_toArray,List.set_cons_zero,List.set_cons_succ]
      refine wpAnyH_done (by kernel_rfl) ?_ _
      (gi_wp2;exact⟨HS.o▸Pp.o.k,Pp.o.p,_,_,_,VC.o,HW.o,Pp.o.b,HZ8.o⟩)
     .skip
      rw [aG (by rfl)];refine eA _ _ 22 rfl _ _ _ rfl rfl VG.o ?_;refine f.out _ _ S5.out (λ_=>?_);clear f K;try simp only [Act.put]
      refine wpAnyH_ready (rs:= [0,5]) (by kernel_rfl) (by simp) (AllReadyH.cons rfl (λK f=>?_) (AllReadyH.cons rfl (λK f=>?_) AllReadyH.nil))
      .skip
       go_simp;refine f.out _ _ S5.out (λ_=>?_);clear f K;try simp only [Act.put,List.setIfInBounds_toArray,List.set_cons_zero,List.set_cons_succ]
       refine wpAnyH_ready (rs:= [5]) (by kernel_rfl) (by simp) (AllReadyH.cons rfl (λK f=>?_) AllReadyH.nil);go_simp;rw [<-HW6.o];refine f.out _ _ S6.out (λ_=>?_);clear f K;try simp only [Act.put,List.setIfInBounds_toArray,List.set_cons_zero,List.set_cons_succ]
       refine wpAnyH_ready (rs:= [6]) (by kernel_rfl) (by simp) (AllReadyH.cons rfl (λK f=>?_) AllReadyH.nil);rw [aG (by rfl)];refine eA _ _ 79 rfl _ _ _ rfl rfl HR5.o ?_;refine f.out _ _ S7.out (λ_=>?_);clear f K;try simp only [Act.put,List.setIfInBounds_toArray]
       refine wpAnyH_ready (rs:= [7]) (by kernel_rfl) (by simp) (AllReadyH.cons rfl (λK f=>?_) AllReadyH.nil);go_simp;refine f.out _ _ S8.out (λ_=>?_);clear f K;try simp only [Act.put,List.setIfInBounds_toArray,List.set_cons_zero,List.set_cons_succ]
       refine wpAnyH_done (by kernel_rfl) ?_ _
       (gi_wp2;exact⟨HS.o▸Pp.o.k,Pp.o.p,_,_,_,VC.o,HW.o,Pp.o.b,HZ8.o⟩)
      .skip
       go_simp;rw [<-HW6.o];refine f.out _ _ S6.out (λ_=>?_);clear f K;try simp only [Act.put,List.setIfInBounds_toArray,List.set_cons_zero,List.set_cons_succ]
       refine wpAnyH_ready (rs:= [0]) (by kernel_rfl) (by simp) (AllReadyH.cons rfl (λK f=>?_) AllReadyH.nil);go_simp;refine f.out _ _ S6.out (λ_=>?_);clear f K;try simp only [Act.put,List.setIfInBounds_toArray,List.set_cons_zero,List.set_cons_succ]
       refine wpAnyH_ready (rs:= [6]) (by kernel_rfl) (by simp) (AllReadyH.cons rfl (λK f=>?_) AllReadyH.nil);rw [aG (by rfl)];refine eA _ _ 79 rfl _ _ _ rfl rfl HR5.o ?_;refine f.out _ _ S7.out (λ_=>?_);clear f K;try simp only [Act.put,List.setIfInBounds_toArray]
       refine wpAnyH_ready (rs:= [7]) (by kernel_rfl) (by simp) (AllReadyH.cons rfl (λK f=>?_) AllReadyH.nil);go_simp;refine f.out _ _ S8.out (λ_=>?_);clear f K;try simp only [Act.put,List.setIfInBounds_toArray,List.set_cons_zero,List.set_cons_succ]
       refine wpAnyH_done (by kernel_rfl) ?_ _
       (gi_wp2;exact⟨HS.o▸Pp.o.k,Pp.o.p,_,_,_,VC.o,HW.o,Pp.o.b,HZ8.o⟩)
    .rw [aB O] at VC;rw [show decide ((R y).i+1=(R y).c)=false by rw [decide_eq_false_iff_not];exact O] at Jo;clear O
     gi_wp2_with fail
     refine⟨trivial,?_⟩;refine Jo.mono ?_;rintro e Q ⟨rfl,bF⟩;have jT:=dP.o.cells (ez bF);have aZ:=ig.o.below rfl J bF;have r4:Q.cell? ⟨q,4,none⟩=some (.slice (A y) (R y).d.length (C y)):=gG ((bF.block _ (aq P.o)).trans P.o);have r9:=jT.c.cell;have ly:=aZ.k.size;obtain⟨g4,D2,Z,bD,Fg,Gm,D3⟩:=qT jT.rc (C y) ((hAC y hyn).2.later aZ.b) xn (by show a.rc.length+_<=_;omega) (by omega);have tW:=jT.grow Fg Gm D3;have s9:=tW.2.1.cell;have f9:=tW.2.1.frozen;have s11:Z.cell? ⟨w.heap.size+1+1+1,2,none⟩=some (.int .i64 (a.j:Int)):=bK (tW.2.2.2.1.trans jT.d);have f11:Z.frozen? ⟨w.heap.size+1+1+1,2,none⟩=false:=ae (tW.2.2.2.1.trans jT.d) 2;have hmo:=jT.more Fg Gm D3 ((a.j:Int)+1) (by show _=((a.j+1:Nat):Int);omega);have dW:=aZ.grown rfl J Gm (λr e=>by
      obtain⟨cur,L⟩:=bz jT.rc e;exact⟨ju jT.rc e,cur,_,L⟩)
     have dX:=(dW.set rfl (b:=w.heap.size+1) (by omega) (by omega) 0 (.slice (some ⟨g4,0,none⟩) (a.rc.length+(R y).d.length) D2)).set rfl (b:=w.heap.size+1+1+1) (by omega) (by omega) 2 (.int .i64 ((a.j:Int)+1));have Zz:(a.j:Int)<1000000:=(by omega);have ZA:w.heap.size+6<=((Z.setCell ⟨w.heap.size+1,0,none⟩ (.slice (some ⟨g4,0,none⟩) (a.rc.length+(R y).d.length) D2)).setCell ⟨w.heap.size+1+1+1,2,none⟩ (.int .i64 ((a.j:Int)+1))).heap.size:=(by have:=dX.k.size;omega);obtain⟨HM,Ur,HZ5,nJ⟩:=Bh hmo dX ZA bD;clear bF jT aZ dW dX hmo tW Fg Gm D3 Jo bD ZA
     gi_wp2_with (gi_at_builtin;refine rD rfl _ _ 22 rfl _ _ _ rfl rfl nJ.o ?_)
     exact⟨HS.o▸Ur.o.k,Ur.o.p,_,_,_,VC.o,HM.o,Ur.o.b,HZ5.o⟩
 case done=>
  rintro D xs W hD oC ⟨a,G,z,H,m,I,J⟩ J4;have q1:=m.r.cell;have q2:W.cell? ⟨w.heap.size+1+1,0,none⟩=some (.int .i64 (a.hd:Int)):=m.h.cell;have Uu:prog.follows .mixedOrders=true:=by kernel_rfl
  have ht:=Nz R E T n jk a (by rw [<-oC];exact H);have HZ:=yh (Gk m.rs (by omega) I J4 (by omega) ht);clear m I J H ht oC
  gi_wp2
  refine CE ?_
  gi_region_with_o (fail)
  all_goals
   gi_wp2
   rw [Exit.noGoto_ret];refine⟨by simp, .inl ⟨_,_,rfl,run_takeDeferred J4,?_⟩⟩;refine⟨_,results_tmp2 rfl _ _ _,?_⟩;simp only [Act.put,List.getElem_toArray,List.getElem_cons_zero,List.getElem_cons_succ,List.setIfInBounds_toArray,List.set_cons_zero,List.set_cons_succ];exact HZ.o
 case stop=>
  rintro D c u W hD ⟨k,hk,lW⟩ ⟨rfl,Q7,x,a,ps,c',G,z,h0,H,I3,m,I⟩ J4;have q1:=m.r.cell;have q2:W.cell? ⟨w.heap.size+1+1,0,none⟩=some (.int .i64 (a.hd:Int)):=m.h.cell;have Uu:prog.follows .mixedOrders=true:=by kernel_rfl
  have ht:dF (Rp R n) E T a.rs a.hd/\∀c d,¬Rec (Rp R n) E a.hd c d:=by
   subst h0;obtain⟨o9,uV⟩:=lW.split;exact Ny R E T n k a (by rw [<-o9];exact H) (by rw [<-uV];exact I3)
  have HZ:=yh (Gk m.rs (by omega) I J4 (by omega) ht);clear m I H ht lW h0 I3
  gi_wp2
  refine CE ?_
  gi_region_with_o (fail)
  all_goals
   gi_wp2
   rw [Exit.noGoto_ret];refine⟨by simp, .inl ⟨_,_,rfl,run_takeDeferred J4,?_⟩⟩;refine⟨_,results_tmp2 rfl _ _ _,?_⟩;simp only [Act.put,List.getElem_toArray,List.getElem_cons_zero,List.getElem_cons_succ,List.setIfInBounds_toArray,List.set_cons_zero,List.set_cons_succ];exact HZ.o
end
section
def dZ (S:DS) (f:Nat):Nat->PC:=λi=>dj (S.now (f+2+i))
def b9 (S:DS) (f:Nat):Nat×Nat×Nat:=ik (S.now f) (S.now (f+1))
def ir (S:DS) (f n:Nat):Nat:=max (b9 S f).1 (gN (dZ S f) n)
def xW {S:DS} (h:(b9 S f).2.2=0):1<=(b9 S f).1/\(b9 S f).1<=1073741824/\(b9 S f).2.1<=1073741824:=by
 unfold b9 ik at*;split at h
 .cases h
 .rename_i a;rw [aB a];refine⟨?_,?_,?_⟩<;> simp only <;> omega
def D4 {S:DS} (h:(b9 S f).2.2=0):ir S f n<=1073741824:=by
 unfold ir;have:=xW h;have:=DV (dZ S f) n;omega
structure Told (w':World) (B l p:Nat) (L:LG) (S:DS) (v:Value) (rs:List (List Int)) (hd:Nat):Prop where
 r:dQ w' B v rs (λ_=>False)
 t:dF (Rp (dZ S L.f) L.n) (b9 S L.f).1 (b9 S L.f).2.1 rs hd
 x:∀c d,¬Rec (Rp (dZ S L.f) L.n) (b9 S L.f).1 hd c d
 p:cW w' l p {L with ep:=(b9 S L.f).1,tail:=(b9 S L.f).2.1,head:=hd,top:=ir S L.f L.n}
def pX (w':World) (B l p:Nat) (L:LG) (S:DS) (e:Ending):Prop:=
 if (b9 S L.f).2.2≠0 then e= .returned (.tuple #[.slice none 0 0,iV ((b9 S L.f).2.2:Int)])
 else if ir S L.f L.n=1073741824 then e= .returned (.tuple #[.slice none 0 0,iV 41])
 else∃v rs hd,e= .returned (.tuple #[v,iV 0])/\Told w' B l p L S v rs hd
def cW.J5 {w:World} {l p:Nat} {L:LG} (h:cW w l p L) (T:Int) (n:Nat) (a:T=(n:Int)):cW (w.setCell ⟨l,8,none⟩ (.int .i64 T)) l p {L with top:=n}:=by
 subst a;exact(heap_setCell_same _ _ 8 _ _ _ h).trans (by simp)
def cW.marked {w:World} {l p:Nat} {L:LG} (h:cW w l p L) (E T H:Nat):cW (((w.setCell ⟨l,5,none⟩ (.int .i64 (E:Int))).setCell ⟨l,6,none⟩ (.int .i64 (T:Int))).setCell ⟨l,7,none⟩ (.int .i64 (H:Int))) l p {L with ep:=E,tail:=T,head:=H}:=
   (heap_setCell_same _ _ 7 _ _ _ (heap_setCell_same _ _ 6 _ _ _ (heap_setCell_same _ _ 5 _ _ _ h))).trans (by simp)
section
variable {w:World} {F:Nat->Prop} {p s l:Nat} {S:DS} {L:LG}
end
end
section
def bA (S:DS) (s:Nat) (f n:Int):Int×DS:=
 if cw S s f n≠0 then (cw S s f n,S) else if (b9 S f.toNat).2.2≠0 then (((b9 S f.toNat).2.2:Int),S.take)
 else if ir S f.toNat n.toNat=1073741824 then (41,S.take) else S.take.fl s
def LG.new (S:DS) (f n:Nat):LG:=⟨f,n,wrap64 (S.life+1),false,0,0,0,0⟩
def J6 (w w':World) (p s:Nat) (S:DS) (f n:Int) (e:Ending):Prop:=
 if (bA S s f n).1≠0 then e= .returned (.tuple #[.pointer none, .slice none 0 0,iV (bA S s f n).1])
 else∃l v rs hd,e= .returned (.tuple #[pQ l,v,iV 0])/\w.heap.size<=l/\Told w' w.heap.size l p (LG.new S f.toNat n.toNat) S v rs hd
def Told.low {w:World} {B l p:Nat} {S:DS} (h:Told w B l p L S v rs hd) (a:B'<=B):Told w B' l p L S v rs hd:=⟨h.r.low a (λ_ h=>h),h.t,h.x,h.p⟩
def Told.aw {w:World} {B l p:Nat} {S:DS} {F:Nat->Prop} (h:Told w B l p L S v rs hd) (d:aa F w w') (f:∀k,F k->k<B) (u:¬F l):Told w' B l p L S v rs hd:=by
 refine⟨?_,h.t,h.x,h.p.aw d u⟩;obtain⟨z,a,n⟩:=h.r;refine⟨z,dR a (λg j=>?_),λi s=>?_⟩
 .obtain⟨cur,q⟩:=bz a j;exact d.block g (aq q) (λb=>by have:=ju a j;have:=f _ b;omega)
 .obtain⟨g,c,e,m,o,y⟩:=n i s;exact⟨g,c,e,m.agree (d.block g m.lt (λb=>by have:=f _ b;omega)),o,y⟩
section
variable {w:World} {F:Nat->Prop} {p s:Nat} {S:DS}
def Told.ZB {w:World} {B l p:Nat} (h:Told w B l p L S.take v rs hd):Told w B l p L S v rs hd:=⟨h.r,h.t,h.x,h.p⟩
def pX.ZB {B l a b:Nat} {e:Ending} (h:pX w' B l p (LG.new S a b) S.take e):if (b9 S a).2.2≠0 then e= .returned (.tuple #[.slice none 0 0,iV ((b9 S a).2.2:Int)])
 else if ir S a b=1073741824 then e= .returned (.tuple #[.slice none 0 0,iV 41])
 else∃v rs hd,e= .returned (.tuple #[v,iV 0])/\Told w' B l p (LG.new S a b) S v rs hd:=by
 unfold pX at h;change if (b9 S a).2.2≠0 then e= .returned (.tuple #[.slice none 0 0,iV ((b9 S a).2.2:Int)])
  else if ir S a b=1073741824 then e= .returned (.tuple #[.slice none 0 0,iV 41])
  else∃v rs hd,e= .returned (.tuple #[v,iV 0])/\Told w' B l p (LG.new S a b) S.take v rs hd at h
 split at h
 .rename_i c;rw [aG c];exact h
 .rename_i c;rw [aB c];split at h
  .rename_i d;rw [aG d];exact h
  .rename_i d;rw [aB d];obtain⟨v,rs,hd,e,f⟩:=h;exact⟨v,rs,hd,e,f.ZB⟩
end
end
section
open Go.RowKit Go.Shelf
attribute [local go_sem] Oper.semAt_some
def vm (b c:Nat) (W W':World):Prop:=W'.heap[b]? =W.heap[b]?/\W'.heap[c]? =W.heap[c]?
def vm.t {b:Nat} {A B C:World} (h:vm b c A B) (k:vm b c B C):vm b c A C:=⟨k.1.trans h.1,k.2.trans h.2⟩
def vm.b {b:Nat} (g:b<w.heap.size) (i:c<w.heap.size) (W:World) (l:Nat) (o e:Obj) (j:w.heap.size<=l) (f:W.heap[l]? =some o) (a:o.isCells=false) (d:o.isWalk=false):vm b c W (W.putObj l e):=
   ⟨World.putObj_heap_other (by omega),World.putObj_heap_other (by omega)⟩
def vm.refl (b c:Nat) (W:World):vm b c W W:=⟨rfl,rfl⟩
def NG (a:Option Addr) (n c:Nat) (w:World):
  Calls prog 194 #[.slice a n c,iV 492] w λe w'=>e= .returned (.func (.func 225) #[] #[pQ w.heap.size, .pointer (some ⟨w.heap.size+1,0,none⟩)])/\w'=(w.alloc (.cells #[.slice a n c] 22)).alloc (.cells #[.int .i64 492] 3):=by
 go_in;go_wp2;go_ret;exact⟨rfl,rfl⟩
def gD (n k:Nat):Nat:=min 492 (n-492*k)
def VH (b o n q:Nat) (x:Fin q):Array Value:= #[.slice (some ⟨b,o+492*x.1,none⟩) (gD n x.1) (gD n x.1)]
set_option maxRecDepth 100000 in
def NH (m:Nat) (R:1<=m) (l g f b o n c q:Nat) (kZ:1<=n) (S:n<=8364) (P:n<=c) (K:q=(n+491) / 492) (J w:List (Fin q)->World->Prop)
    (A:∀a (x:Fin q) W,J a W->a.length<q->YieldAt Fence.wide (m-1) prog l (VH b o n q x) W λe W'=>
     (e= .returned (.bool true)/\J (a ++ [x]) W'/\vm g f W W')\/(e= .returned (.bool false)/\w (a ++ [x]) W'))
    (W:World) (J1:W.heap[g]? =some (.cells #[.slice (some ⟨b,o,none⟩) n c] 22 (0,0))) (Re:W.heap[f]? =some (.cells #[.int .i64 492] 3 (0,0))) (y:AbidesFrom W.heap.size J) (h0:J [] W):
  CallsIn Fence.wide m prog 225 #[.func (.yield l) #[] #[],pQ g,pQ f] W λe W'=>(∃v,e= .returned v)/\
     ((∃ys,tT ys q/\J ys W')\/(∃a,(∃k,k<q/\tT a (k+1))/\w a W')):=by
 have L:n<=492*q/\492*q<n+492:=by omega
 clear K;refine callsIn_of_wp func225 rfl trivial ?_ rfl;simp only [ntmps225,List.size_toArray,List.length_cons,List.length_nil,Nat.reduceAdd,Nat.reduceSub,Array.replicate_succ,Array.replicate_zero,List.push_toArray,List.append_toArray,List.nil_append,List.cons_append]
 gi_wp2
 gi_loopw [4] (λi wr=>∃(k:Nat) (a:List (Fin q)),k<=q/\i=iV ((492*k:Nat):Int)/\tT a k/\J a wr/\vm g f W wr)
    (λi _=>492*q-(intOf i).toNat)
 case atStart=>exact⟨0, [],dV _,rfl,tT.nil,h0,vm.refl _ _ _⟩
 case round=>
  obtain⟨k,a,Q,rfl,lW,Ut,eZ⟩:=hrel;have C:=lW.length;have eh:=aM (eZ.1.trans J1);have o9:=aM (eZ.2.trans Re);by_cases bq:k<q
  .have d:=y a wr wr.drew none Ut ⟨rfl,rfl,rfl,bS _,λ_ _ _=>rfl⟩ (λr e=>by cases e);obtain⟨O,E,j,body,s,Zx⟩:=A a ⟨k,bq⟩ wr.drew d (by omega);have Uu:prog.follows .mixedOrders=true:=by kernel_rfl
   dsimp only [VH] at s
   have yw:gD n k=min 492 (n-492*k):=rfl;obtain⟨I,p⟩:=bQ (492*k);rw [<-p] at s yw⊢;have H:I<n:=(by omega);obtain⟨z,D⟩:=bQ (gD n k);rw [<-D] at s yw;have Zf:min (492:Int) ((n-I:Nat):Int)=(z:Int):=(by omega);have Pk:((I:Int)+(z:Int)).toNat-I=z:=(by omega);have cC:(I:Int)<(n:Int):=(by omega);have G:(I:Int)<(c:Int):=(by omega);have M:(I:Int)+(z:Int)<=(n:Int):=(by omega);have dC:(1:Int)<=(z:Int):=(by omega);have u:=yh p;clear p D yw;have ZC:=sA Zx;have F:=yh eZ;have Rf:=yh lW;clear Zx A Ut d eZ y lW
   gi_wp2
   gi_region_with_o (fail)
   all_goals
    gi_wp2_with fail
    refine ZC.mono ?_;rintro e N ⟨r,rfl,mj,fy⟩;obtain⟨zm,xz⟩:=bU mj fy;clear mj fy;cases r
    .gi_wp2
     refine bodyPost_ret (results_none rfl _ _ _) rfl ?_;exact⟨⟨_,rfl⟩, .inr ⟨_,⟨k,bq,Rf.o.snoc bq⟩,xz.o (by simp)⟩⟩
    .have aZ:=F.o.t (vm.t (B:=wr.drew) ⟨rfl,rfl⟩ (zm.o rfl).2);have P5:=aM (aZ.2.trans Re);have lO:=yh aZ;clear aZ
     gi_wp2
     go_roundw;case rel=>exact⟨k+1,_,by omega,by rw [u.o];go_num,Rf.o.snoc bq,(zm.o (by simp)).1,lO.o⟩
     case measure=>have:=u.o;simp [intOf];omega
  .have ZD:=yh (show k=q by omega);have wj:¬((492*k:Nat):Int)<(n:Int):=by omega
   gi_wp2
   go_end0
   exact⟨⟨_,rfl⟩, .inl ⟨a,(by rw [ZD.out] at lW;exact lW),Ut⟩⟩
def Gp (m:Nat) (r:1<=m) (d a b o n c q:Nat) (kZ:1<=n) (s:n<=8364) (p:n<=c) (t:q=(n+491) / 492) (w:World)
    (J1:w.heap[d]? =some (.cells #[.slice (some ⟨b,o,none⟩) n c] 22 (0,0))) (Re:w.heap[a]? =some (.cells #[.int .i64 492] 3 (0,0))):
  SeqStopsK Fence.wide m prog 225 #[pQ d,pQ a] (VH b o n q) (vm d a) (λu=>tT u q) (λe=>∃k,k<q/\tT e (k+1)) q w:=
 λl J g W f i _ j h0=>NH m r l d a b o n c q kZ s p t J g j W ((f.block _ (aq J1)).trans J1) ((f.block _ (aq Re)).trans Re) i h0
def IsC (w:World) (k:Nat):Prop:=∃cur t fz,w.heap[k]? =some (Obj.cells cur t fz)
def fi.narrow {w:World} {F G:Nat->Prop} {a:Nat} (b:∀k,F k->IsC w k->G k):∀{xs:List Value} {ls:List (List Int)},fi w F a xs ls->fi w G a xs ls
 | [], [],_=>trivial
 |_ :: _,_ :: _,⟨⟨g,c,h1,h2,h3,h4⟩,h5⟩=>⟨⟨g,c,h1,b g h2 (by obtain⟨cur,d,_⟩:=h4;exact⟨cur,_,_,d⟩),h3,h4⟩,fi.narrow b h5⟩
 | [],_ :: _,h=>h.elim
 |_ :: _, [],h=>h.elim
def gS.narrow {m:Nat} (h:gS w F p s S m) (b:∀k,F k->(IsC w k\/k=m)->G k) (v:∀k,G k->k<w.heap.size):gS w G p s S m:=by
 obtain⟨o,l,D,q,n,d,c,e,x,i,j,r,a,t⟩:=h;refine⟨o,l,D,q,n,b _ d (.inl ⟨_,_,_,i⟩),b _ c (.inl (by obtain⟨cur,f,_⟩:=j;exact⟨cur,_,_,f⟩)),b _ e (.inr rfl),v,i,j,r,⟨a.keys,a.Fu,a.look,λk g=>?_,a.inj⟩,t⟩;obtain⟨d,xs,c,e⟩:=a.row k g;exact⟨b _ d (.inl (by obtain⟨cur,f,_⟩:=c;exact⟨cur,_,_,f⟩)),xs,c,e.narrow (λk g u=>b k g (.inl u))⟩
def bX.fm {m:Nat} (h:bX w F p s S m):F m:=by
 obtain⟨r,c,a,D,d,b,h⟩:=h;exact h.fm
def FC (F:Nat->Prop) (B m:Nat) (w:World) (k:Nat):Prop:=(F k\/B<=k)/\(IsC w k\/k=m)/\k<w.heap.size
end
section
def fY {b:Func} {p:Tmp} (h:b.results= #[.cell p 46]) (a:Array Value) (w:World) (g:Nat) (v:Int)
    (d:a.getD p undef=pQ g) (e:w.cell? (aD g 0)=some (iV v)):(results b a).run prog w= .ok (iV v) w:=by
 have Y9:a[p]?.getD undef=pQ g:=by simpa using d
 have c:(loadVar 46 (aD g 0)).run prog w= .ok (iV v) w:=by simp [go_sem,e]
 simp [results,h,Y9,asAddr,c]
def partOf (d:List Int) (k:Nat):List Int:=(d.drop (492*k)).take 492
def J7 (d:List Int) (k:Nat):(partOf d k).length=gD d.length k:=by
 unfold partOf gD;simp
def dh (x:Nat):Nat:=(x+491) / 492
def cU (L:LG) (S:DS) (s:Nat) (d:List Int) (k:Nat):Int×DS:=cB S (λj T=>jX T s L.f L.n L.ep (L.head+j) j (dh d.length) (partOf d j)) k
def LG.fW (L:LG) (S:DS) (x:Nat):Int:=
 if L.bj S≠0 then L.bj S else if x=0 then 2 else if 8364<x then 7 else if 1073741824<L.head+dh x then 41 else if L.tail+L.n<L.head+dh x then 40 else 0
def LG.append (L:LG) (S:DS) (s:Nat) (d:List Int):Int×DS×LG:=
 if L.fW S d.length≠0 then (L.fW S d.length,S,L)
 else if (cU L S s d (dh d.length)).1≠0 then ((cU L S s d (dh d.length)).1,(cU L S s d (dh d.length)).2,L)
 else (0,(cU L S s d (dh d.length)).2,{L with head:=L.head+dh d.length})
section
variable {w:World} {F:Nat->Prop} {p s l:Nat} {S:DS} {L:LG}
def ij (W:World) (b l:Nat):Prop:=W.heap[b]? =some (.cells #[.pointer (some ⟨l,0,none⟩)] 78 (0,0))/\W.heap[b+1]? =some (.cells #[.int .i64 0] 46 (0,0))
def ij.err {b l:Nat} (h:ij W b l) (v:Int):(W.setCell ⟨b+1,0,none⟩ (.int .i64 v)).cell? ⟨b+1,0,none⟩=some (iV v):=
 aj (cur:= #[iV v]) (e:=46) ((heap_setCell_same _ _ 0 _ _ _ h.2).trans (by simp)) (j:=0) rfl
def ij.later {b l:Nat} (h:ij W b l) (a:bW W W'):ij W' b l:=⟨(a.block _ (aq h.1)).trans h.1,(a.block _ (aq h.2)).trans h.2⟩
def NI (h:ax w F p s S) (J:cW w l p L) (I:L.Ok s) (a:Option Addr) (x k:Nat) (z:x<=140737488355328) (b:L.fW S x≠0):
  Calls prog 171 #[pQ l, .slice a x k] w λe w'=>e= .returned (iV (L.fW S x))/\bW w w':=by
 obtain⟨M,J2⟩:=zEr ((w.alloc (.cells #[.pointer (some ⟨l,0,none⟩)] 78)).alloc (.cells #[.int .i64 0] 46));have fO:bW w M:=by rw [<-J2];exact gX _ _ _
 have Xz:ij M w.heap.size l:=by
  rw [<-J2];refine⟨(Below.heap_alloc _ _ _ (by simp)).trans (heap_alloc_new _ _),?_⟩;have:=heap_alloc_new (w.alloc (.cells #[.pointer (some ⟨l,0,none⟩)] 78)) (.cells #[.int .i64 0] 46);rwa [World.size_alloc] at this
 obtain⟨d,r,q,c,m,T,N⟩:=nw (jw (h.later fO) (J.later fO)) (yh J2) (yh Xz) (yh fO) (yh (J.later fO)) I.hi (yh I);unfold LG.fW at b⊢;clear h J fO Xz J2 I;by_cases i:L.bj S=0
 .simp only [aB (λh:¬L.bj S=0=>h i)] at b⊢;rw [i] at d;clear i;by_cases A:x=0
  .simp only [aG A];have P:((x:Int) == 0)=true:=(by rw [beq_iff_eq];omega);clear b A;go_in;go_wp2_with fail;rw [r.o];refine bM d λw1 ar=>?_;have iM:=ij.later q.o ar;have u:w1.cell? (aD w.heap.size 0)=some (pQ l):=aM iM.1;have v:w1.cell? ⟨w.heap.size+1,0,none⟩=some (iV 0):=aM iM.2;have y:=ae iM.2 0;have cq:=m.o.later ar;have bN:=c.o.trans (ar.mono c.o.size);clear d ar;go_wp2_with fail;refine((λwx=>jd x wx z) _).mono ?_;rintro e j ⟨rfl,dE⟩;have eG:=dE.symm;subst eG;clear dE;obtain⟨g,f⟩:=bU (bN.setCell (p:=⟨w.heap.size+1,0,none⟩) (by show _<=w.heap.size+1;omega) (iV 2)) (show (w1.setCell ⟨w.heap.size+1,0,none⟩ (.int .i64 2)).cell? ⟨w.heap.size+1,0,none⟩=some (iV 2) from iM.err _);clear bN iM cq;go_wp2_with fail;exact bodyPost_ret (fY rfl _ _ (w.heap.size+1) _ rfl f.o) rfl ⟨rfl,g.o⟩
  .simp only [aB A] at b⊢;have P:((x:Int) == 0)=false:=(by rw [fJ];omega);clear A;by_cases D:8364<x
   .simp only [aG D];have Q:(8364:Int)<(x:Int):=(by omega);clear b D;go_in;go_wp2_with fail;rw [r.o];refine bM d λw1 ar=>?_;have iM:=ij.later q.o ar;have u:w1.cell? (aD w.heap.size 0)=some (pQ l):=aM iM.1;have v:w1.cell? ⟨w.heap.size+1,0,none⟩=some (iV 0):=aM iM.2;have y:=ae iM.2 0;have cq:=m.o.later ar;have bN:=c.o.trans (ar.mono c.o.size);clear d ar;go_wp2_with fail;refine((λwx=>jd x wx z) _).mono ?_;rintro e j ⟨rfl,dE⟩;have eG:=dE.symm;subst eG;clear dE;obtain⟨g,f⟩:=bU (bN.setCell (p:=⟨w.heap.size+1,0,none⟩) (by show _<=w.heap.size+1;omega) (iV 7)) (show (w1.setCell ⟨w.heap.size+1,0,none⟩ (.int .i64 7)).cell? ⟨w.heap.size+1,0,none⟩=some (iV 7) from iM.err _);clear bN iM cq;go_wp2_with fail;exact bodyPost_ret (fY rfl _ _ (w.heap.size+1) _ rfl f.o) rfl ⟨rfl,g.o⟩
   .simp only [aB D] at b⊢;have Q:¬(8364:Int)<(x:Int):=(by omega);clear D;have pf:dh x=(x+491) / 492:=rfl;by_cases E:1073741824<L.head+dh x
    .simp only [aG E];clear b;obtain⟨C,t⟩:=bQ ((x+491) / 492);have Qb:C<=17:=(by omega);have R:(1073741824:Int)<(L.head:Int)+(C:Int):=(by omega);have G:=yh t;clear E pf t;go_in;go_wp2_with fail;rw [r.o];refine bM d λw1 ar=>?_;have iM:=ij.later q.o ar;have u:w1.cell? (aD w.heap.size 0)=some (pQ l):=aM iM.1;have v:w1.cell? ⟨w.heap.size+1,0,none⟩=some (iV 0):=aM iM.2;have y:=ae iM.2 0;have bN:=c.o.trans (ar.mono c.o.size);have O:=(m.o.later ar).c7;clear d ar;go_wp2_with fail;refine((λwx=>jd x wx z) _).mono ?_;rintro e j ⟨rfl,dE⟩;have eG:=dE.symm;subst eG;clear dE;rw [<-G.o];obtain⟨g,f⟩:=bU (bN.setCell (p:=⟨w.heap.size+1,0,none⟩) (by show _<=w.heap.size+1;omega) (iV 41)) (show (w1.setCell ⟨w.heap.size+1,0,none⟩ (.int .i64 41)).cell? ⟨w.heap.size+1,0,none⟩=some (iV 41) from iM.err _);clear bN iM;go_wp2_with fail;exact bodyPost_ret (fY rfl _ _ (w.heap.size+1) _ rfl f.o) rfl ⟨rfl,g.o⟩
    .simp only [aB E] at b⊢;by_cases K:L.tail+L.n<L.head+dh x
     .simp only [aG K];clear b;obtain⟨C,t⟩:=bQ ((x+491) / 492);have Qb:C<=17:=(by omega);have R:¬(1073741824:Int)<(L.head:Int)+(C:Int):=(by omega);have X:(L.n:Int)-((L.head:Int)-(L.tail:Int))<(C:Int):=(by omega);have G:=yh t;clear E K pf t;go_in;go_wp2_with fail;rw [r.o];refine bM d λw1 ar=>?_;have iM:=ij.later q.o ar;have u:w1.cell? (aD w.heap.size 0)=some (pQ l):=aM iM.1;have v:w1.cell? ⟨w.heap.size+1,0,none⟩=some (iV 0):=aM iM.2;have y:=ae iM.2 0;have cq:=m.o.later ar;have bN:=c.o.trans (ar.mono c.o.size);have O:=cq.c7;clear d ar;go_wp2_with fail;refine((λwx=>jd x wx z) _).mono ?_;rintro e j ⟨rfl,dE⟩;have eG:=dE.symm;subst eG;clear dE;rw [<-G.o];obtain⟨cQ,H⟩:=bU bN iM;clear bN iM;go_wp2_with fail;refine(zg cq N.o).mono ?_;rintro e j ⟨rfl,bd⟩;have qL:=ij.later H.o bd;have eR:=cQ.o.trans (bd.mono cQ.o.size);have U:j.cell? ⟨w.heap.size+1,0,none⟩=some (iV 0):=aM qL.2;have Y:=ae qL.2 0;clear bd;obtain⟨g,f⟩:=bU (eR.setCell (p:=⟨w.heap.size+1,0,none⟩) (by show _<=w.heap.size+1;omega) (iV 40)) (show (j.setCell ⟨w.heap.size+1,0,none⟩ (.int .i64 40)).cell? ⟨w.heap.size+1,0,none⟩=some (iV 40) from qL.err _);clear eR qL cq;go_wp2_with fail;exact bodyPost_ret (fY rfl _ _ (w.heap.size+1) _ rfl f.o) rfl ⟨rfl,g.o⟩
     .exact absurd (aB K) b
 .simp only [aG (λh=>i h:¬L.bj S=0)];have W:(L.bj S == 0)=false:=by rw [fJ];exact i
  clear b i;go_in;go_wp2_with fail;rw [r.o];refine bM d λw1 ar=>?_;have iM:=ij.later q.o ar;have u:w1.cell? (aD w.heap.size 0)=some (pQ l):=aM iM.1;have v:w1.cell? ⟨w.heap.size+1,0,none⟩=some (iV 0):=aM iM.2;have y:=ae iM.2 0;have cq:=m.o.later ar;obtain⟨g,f⟩:=bU ((c.o.trans (ar.mono c.o.size)).setCell (p:=⟨w.heap.size+1,0,none⟩) (by show _<=w.heap.size+1;omega) (iV (L.bj S))) (show (w1.setCell ⟨w.heap.size+1,0,none⟩ (.int .i64 (L.bj S))).cell? ⟨w.heap.size+1,0,none⟩=some (iV (L.bj S)) from iM.err _);clear iM cq;go_wp2_with fail;exact bodyPost_ret (fY rfl _ _ (w.heap.size+1) _ rfl f.o) rfl ⟨rfl,g.o⟩
end
end
section
def mS {S:DS} {g a:Nat->DS->Int×DS}:∀k,(∀j T,j<k->g j T=a j T)->cB S g k=cB S a k
 |0,_=>rfl
 |k+1,h=>by
  rw [cB,cB,mS (S:=S) k (λj T b=>h j T (by omega)),h k _ (by omega)]
def rE (L:LG) (S:DS) (s:Nat) (d:List Int) (xs:List Nat):Int×DS:=cB S (λj T=>jX T s L.f L.n L.ep (L.head+j) j (dh d.length) (partOf d (xs.getD j 0))) xs.length
def NJ {L:LG} {S:DS} {s:Nat} {d:List Int} {xs:List Nat} (x:Nat) (h:(rE L S s d xs).1=0):
  rE L S s d (xs ++ [x])=jX (rE L S s d xs).2 s L.f L.n L.ep (L.head+xs.length) xs.length (dh d.length) (partOf d x):=by
 have e:cB S (λj T=>jX T s L.f L.n L.ep (L.head+j) j (dh d.length) (partOf d ((xs ++ [x]).getD j 0))) xs.length=rE L S s d xs:=by
  unfold rE;refine mS _ (λj T a=>?_);rw [show (xs ++ [x]).getD j 0=xs.getD j 0 by simp [List.getElem?_append_left a]]
 unfold rE at*;rw [ed,List.length_singleton,jt (by rw [e];exact h),e];simp
def zt {L:LG} {S:DS} {s:Nat} {d:List Int} (k:Nat):rE L S s d (List.range k)=cU L S s d k:=by
 unfold rE cU;rw [List.length_range];refine mS _ (λj T a=>?_);rw [show (List.range k).getD j 0=j by simp [a]]
def CF (S:DS) (s f n E P i c:Nat) (l:List Int):(jX S s f n E P i c l).2.puts.length<=S.puts.length+1:=by
 unfold jX;split
 .simp
 .exact jh _ _ _ _ _
def NK (L:LG) (S:DS) (s:Nat) (d:List Int) (xs:List Nat):(rE L S s d xs).2.puts.length<=S.puts.length+xs.length:=oA (λ_ _=>CF _ _ _ _ _ _ _ _ _) _
def aa.grown {w W W':World} {F:Nat->Prop} {row:Option Nat} (h:aa F w W) (a:W.grownBy W' row) (d:∀r,row=some r->w.heap.size<=r):aa F w W':=
 h.trans (G:=λk=>some k=row) ⟨a.os,a.tape,a.output,a.size,λk b c=>a.block k b c⟩ (λk b=> .inr (d k b.symm))
section
variable {w W W':World} {F:Nat->Prop} {l p s m M n0:Nat} {L:LG} {S:DS} {d:List Int} {xs:List Nat}
end
end
section
open Go.RowKit Go.Shelf
attribute [local go_sem] Oper.semAt_some
def Src.sub {w:World} {b o:Nat} {l:List Int} (h:Src w (some (aD b o)) n l) (i k:Nat) (g:i+k<=n):Src w (some ⟨b,o+i,none⟩) k ((l.drop i).take k):=by
 have j:=h.1;refine⟨by simp;omega,by simp,?_⟩;intro z f t e;cases f;have h0:=h.2.2 _ rfl (i+t) (by omega);have c:(Addr.add (aD b o) (i+t))=Addr.add ⟨b,o+i,none⟩ t:=by
  unfold Addr.add;by_cases d:i+t=0
  .obtain⟨rfl,rfl⟩:i=0/\t=0:=(by omega);simp
  .by_cases a:t=0
   .subst a;rw [aB d,aG rfl];rfl
   .simp [a,Nat.add_assoc]
 rw [c] at h0;rw [h0];congr 2;simp [List.getD,e]
def E4 {w:World} {F:Nat->Prop} {a m:Nat} (b:∀j,F j->j<w.heap.size) (c:w.heap.size<=k) (d:k<a):¬FC F a m W k:=λh=>by
 rcases h.1 with h|h
 .have:=b k h;omega
 .omega
def oD (h:Bytes d) (k:Nat):Bytes (partOf d k):=λv a=>h v (List.mem_of_mem_drop (List.mem_of_mem_take a))
section
variable {w:World} {F:Nat->Prop} {p s l:Nat} {S:DS} {L:LG}
def jJ {x:Nat} (h:L.fW S x=0):L.bj S=0/\1<=x/\x<=8364/\L.head+dh x<=1073741824/\L.head+dh x<=L.tail+L.n:=by
 unfold LG.fW at h;split at h
 .exact absurd h (by assumption)
 .rename_i h0;split at h
  .omega
  .split at h
   .omega
   .split at h
    .omega
    .split at h
     .omega
     .refine⟨by omega,by omega,by omega,by omega,by omega⟩
end
end
def VI (S:DS) (k:Nat) (l:List Int) (j:Nat):(S.put k l).now j=if j=k then l else S.now j:=by
 have e:au (S.put k l).puts j=if j=k then au S.puts k ++ [l] else au S.puts j:=iw _ _ _ _;by_cases h:j=k
 .subst h;simp [DS.now,DS.gL,e]
 .have a:au (S.put k l).puts j=au S.puts j:=by rw [e,aB h]
  have b:(S.put k l).im=S.im:=rfl;simp [DS.now,DS.gL,a,b,h]
def jK (a:S.fuse≠0) (b:k<s) (l:List Int) (j:Nat):(S.wr s (k:Int) 512 l).2.now j=if j=k then l else S.now j:=by
 rw [oW a b];exact VI S k l j
def tX (h:S.Ok s) (c:S.fuse≠0) (b:k<s) (d:l.length=512):(S.wr s (k:Int) 512 l).2.Ok s:=by
 rw [oW c b];refine⟨h.len,h.lo,h.hi,λq a=>?_,?_⟩
 .have Zl:q∈S.puts ++ [(k,l)]:=a;rcases List.mem_append.1 Zl with a|a
  .exact h.puts q a
  .rw [List.mem_singleton.1 a];exact⟨b,d⟩
 .have:=h.fuse;show-1<=(if 0<S.fuse then S.fuse-1 else S.fuse)/\(if 0<S.fuse then S.fuse-1 else S.fuse)<=_;split <;> omega
def eY (h:S.Ok s) (a:j<s):(S.fl s).2.now j=S.now j:=by
 unfold DS.fl;split
 .rfl
 .show (S.flush s).now j=S.now j;rw [tA _ _ rfl];exact nB s S.now (λk b=>bu h k b) j a
def rY (h:S.Ok s):(S.fl s).2.Ok s:=by
 unfold DS.fl;split
 .exact h
 .refine⟨pD s _ (λk a=>bu h k a),h.lo,h.hi,(λq b=>by cases b),?_⟩;have:=h.fuse;show-1<=(if 0<S.fuse then S.fuse-1 else S.fuse)/\(if 0<S.fuse then S.fuse-1 else S.fuse)<=_;split <;> omega
def kB (S:DS) (s:Nat) (x:Int) (n:Nat) (l:List Int):(S.wr s x n l).2.life=S.life:=by
 unfold DS.wr;split
 .rfl
 .split
  .rfl
  .split <;> rfl
def fX (S:DS) (s:Nat):(S.fl s).2.life=S.life:=by
 unfold DS.fl;split <;> rfl
def jm (h:(S.fl s).1=0):(S.fl s).2.puts= []:=by
 unfold DS.fl at*;split at h
 .simp at h
 .rename_i q;rw [aB q];rfl
def lu (h:(S.fl s).1≠0):(S.fl s).2=S/\S.fuse=0/\(S.fl s).1=3:=by
 unfold DS.fl at*;split at h
 .rename_i q;rw [aG q];exact⟨rfl,q,rfl⟩
 .exact absurd rfl h
def Rg (b:k<s) (h:(S.wr s (k:Int) 512 l).1≠0):(S.wr s (k:Int) 512 l).2=S/\S.fuse=0:=by
 by_cases a:S.fuse=0
 .unfold DS.wr;rw [aG a];exact⟨rfl,a⟩
 .rw [oW a b] at h;exact absurd rfl h
def Mk (h:(S.wr s (k:Int) 512 l).1=0):S.fuse≠0:=λa=>by
 unfold DS.wr at h;rw [aG a] at h;simp at h
def iD {r:List Int} (b:l.length=512) (c:r.length=512) (a:1<=N) (h:(am l r).2.1<N):(aP l r (N:Int) []).2.2=0:=by
 unfold aP;rw [aB (by omega),aB (by omega),aB (by simp)];simp only;rw [aB (by omega)];split <;> rfl
def J8 {r:List Int} (c:l.length=512) (d:r.length=512) (a:1<=N) (b:N<9223372036854775808) (h:(am l r).2.1<N):
    (am (yN l r (aP l r (N:Int) []).1 (aP l r (N:Int) []).2.1).1 (yN l r (aP l r (N:Int) []).1 (aP l r (N:Int) []).2.1).2).2.1=N:=by
 have e:(aP l r (N:Int) [])=if (am l r).2.2.2=0/\(am l r).1=0 then (1,bh (cG (r.getD 0 0) (r.getD 511 0)) (aS N ++ []),0) else (0,bh (cG (l.getD 0 0) (l.getD 511 0)) (aS N ++ []),0):=by
  unfold aP;rw [aB (by omega),aB (by omega),aB (by simp)];simp only;rw [aB (by omega),Int.toNat_natCast]
 rw [e];by_cases q:(am l r).2.2.2=0/\(am l r).1=0
 .rw [aG q];have:=tF (data:= []) c d b a (by simp) h (t:=cG (r.getD 0 0) (r.getD 511 0)) (by have:=gu (r.getD 0 0) (r.getD 511 0);omega) 1 (by rw [aG q]);simp only;rw [this]
 .rw [aB q];have:=tF (data:= []) c d b a (by simp) h (t:=cG (l.getD 0 0) (l.getD 511 0)) (by have:=gu (l.getD 0 0) (l.getD 511 0);omega) 0 (by rw [aB q]);simp only;rw [this]
def iU (S:DS) (s f:Nat) (num:Int):(cZ S s f num).2.life=S.life:=by
 unfold cZ;split
 .rfl
 .split
  .rfl
  .split
   .exact kB _ _ _ _ _
   .rw [fX,kB]
def DS.num (S:DS) (f:Nat):Nat:=(am (S.now f) (S.now (f+1))).2.1
def tY (h:S.Ok s) (c:f+1<s) (b:1<=N) (g:N<9223372036854775808) (bq:S.num f<N) (h0:(cZ S s f (N:Int)).1=0):(cZ S s f (N:Int)).2.num f=N/\(cZ S s f (N:Int)).2.puts= []:=by
 have d:=bu h f (by omega);have e:=bu h (f+1) c;have du:=iD d e b bq;have a:=J8 d e b g bq;have mR:=fU (S.now f) (S.now (f+1)) (N:Int) [];have Fj:=kN (S.now f) (S.now (f+1)) (N:Int) [] du;unfold cZ at*;split at h0
 .simp at h0
 .rename_i BD;rw [aB BD];rw [aB (by omega)] at h0⊢;generalize aP (S.now f) (S.now (f+1)) (N:Int) []=Y at*;rw [show (f:Int)+(Y.1:Int)=((f+Y.1:Nat):Int) by omega] at h0⊢;have VJ:(S.wr s ((f+Y.1:Nat):Int) 512 Y.2.1).1=0:=by rw [oW BD (by omega)]
  rw [aB (by omega)] at h0⊢;have NL:=tX h BD (show f+Y.1<s by omega) Fj;refine⟨?_,jm h0⟩;unfold DS.num;rw [eY NL (by omega),eY NL c,jK BD (by omega),jK BD (by omega)];unfold yN at a;by_cases q:Y.1=0
  .rw [q] at a⊢;rw [aG (by omega),aB (by omega)];rw [aG rfl] at a;exact a
  .have i:Y.1=1:=(by omega);rw [i] at a⊢;rw [aB (by omega),aG rfl];rw [aB (by omega)] at a;exact a
def pY {num:Int} (c:f+1<s) (du:(aP (S.now f) (S.now (f+1)) num []).2.2=0) (h0:(cZ S s f num).1≠0):(cZ S s f num).2.fuse=0/\(cZ S s f num).2.puts.length<=S.puts.length+1:=by
 have mR:=fU (S.now f) (S.now (f+1)) num [];unfold cZ at*;split at h0
 .rename_i BD;rw [aG BD];exact⟨BD,Nat.le_succ _⟩
 .rename_i BD;rw [aB BD];rw [aB (by omega)] at h0⊢;generalize aP (S.now f) (S.now (f+1)) num []=Y at*;rw [show (f:Int)+(Y.1:Int)=((f+Y.1:Nat):Int) by omega] at h0⊢;have VJ:(S.wr s ((f+Y.1:Nat):Int) 512 Y.2.1).1=0:=by rw [oW BD (by omega)]
  rw [aB (by omega)] at h0⊢;obtain⟨a,b,_⟩:=lu h0;rw [a];exact⟨b,jh _ _ _ _ _⟩
def NM (S:DS) (s f n E P i c:Nat) (l:List Int):(jX S s f n E P i c l).2.life=S.life:=by
 unfold jX;split
 .rfl
 .exact kB _ _ _ _ _
def Rh (b:1<=n) (e:f+2+n<=s) (d:j<f+2):(jX S s f n E P i c l).2.now j=S.now j:=by
 have:=Nat.mod_lt P b;unfold jX;split
 .rfl
 .rename_i a;rw [jK a (by omega),aB (by omega)]
def Ri (b:1<=n) (d:f+2+n<=s) (h:(jX S s f n E P i c l).1≠0):(jX S s f n E P i c l).2.fuse=0:=by
 have:=Nat.mod_lt P b;unfold jX at*;split at h
 .rename_i a;rw [aG a];exact a
 .rename_i a;rw [oW a (by omega)] at h;exact absurd rfl h
def mz {L:LG} {S:DS} {s:Nat} {d:List Int} (a:1<=L.n) (b:L.f+2+L.n<=s):∀k,(cU L S s d k).2.life=S.life/\(∀j,j<L.f+2->(cU L S s d k).2.now j=S.now j)/\((cU L S s d k).1≠0->(cU L S s d k).2.fuse=0)/\(cU L S s d k).2.puts.length<=S.puts.length+k
 |0=>⟨rfl,λ_ _=>rfl,λh=>absurd rfl h,bS _⟩
 |k+1=>by
  obtain⟨c,g,l,m⟩:=mz (L:=L) (S:=S) (d:=d) a b k;by_cases e:(cU L S s d k).1=0
  .have:cU L S s d (k+1)=jX (cU L S s d k).2 s L.f L.n L.ep (L.head+k) k (dh d.length) (partOf d k):=jt e;rw [this];refine⟨(NM _ _ _ _ _ _ _ _ _).trans c,λj i=>(Rh a b i).trans (g j i),λh=>Ri a b h,?_⟩;have:=CF (cU L S s d k).2 s L.f L.n L.ep (L.head+k) k (dh d.length) (partOf d k);omega
  .have:cU L S s d (k+1)=cU L S s d k:=gC e (k+1) (by omega);rw [this];exact⟨c,g,l,by omega⟩
def lF {S:DS} {s f n:Nat} (h:S.Ok s) (o:f+n<=s):∀k,k<=n->(bE S s f k).2.life=S.life/\(bE S s f k).2.Ok s/\((bE S s f k).1≠0->(bE S s f k).2.fuse=0)/\((bE S s f k).1=0->∀j,j<k->(bE S s f k).2.now (f+j)=zs 512)
 |0,_=>⟨rfl,h,λh=>absurd rfl h,λ_ j m=>by omega⟩
 |k+1,hk=>by
  obtain⟨c,d,i,l⟩:=lF h o k (by omega);by_cases e:(bE S s f k).1=0
  .have b:bE S s f (k+1)=(bE S s f k).2.wr s ((f+k:Nat):Int) 512 (zs 512):=jt e;rw [b];by_cases a:(bE S s f k).2.fuse=0
   .have g:(bE S s f k).2.wr s ((f+k:Nat):Int) 512 (zs 512)=(3,(bE S s f k).2):=(by unfold DS.wr;rw [aG a]);rw [g];exact⟨c,d,λ_=>a,λh=>by simp at h⟩
   .refine⟨(kB _ _ _ _ _).trans c,tX d a (by omega) (bH 512),λh=>?_,λ_ j m=>?_⟩
    .rw [oW a (by omega)] at h;exact absurd rfl h
    .rw [jK a (by omega)];by_cases q:j=k
     .rw [aG (by omega)]
     .rw [aB (by omega)];exact l e j (by omega)
  .have b:bE S s f (k+1)=bE S s f k:=gC e (k+1) (by omega);rw [b];exact⟨c,d,i,λh=>absurd h e⟩
def tZ:(az (zs 512)).1=0:=by
 have a:dJ (zs 512)= []:=by
  unfold dJ;rw [show dN (zs 512)=0 from by unfold dN;rw [show (zs 512).getD 1 0=0 from rfl,show (zs 512).getD 2 0=0 from rfl];rfl];exact List.take_zero
 have b:az (zs 512)=(0, []):=by
  refine fk ?_;unfold fA;split
  .exact .inr ⟨_,rfl, .inl (by rw [a];decide)⟩
  .exact .inl rfl
 rw [b]
def D5:(am (zs 512) (zs 512)).2.1=0:=by
 rw [lV (bH 512) (bH 512),aG ⟨tZ,tZ⟩]
def kP (h:S.Ok s) (k:f+2+n<=s):(cN S s f n).2.life=S.life/\(cN S s f n).2.Ok s/\((cN S s f n).1≠0->(cN S s f n).2.fuse=0)/\((cN S s f n).1=0->(cN S s f n).2.num f=0/\(cN S s f n).2.puts= []):=by
 obtain⟨b,a,i,c⟩:=lF (f:=f) h (n:=n+2) (by omega) (n+2) (bS _);unfold cN;by_cases e:(bE S s f (n+2)).1=0
 .rw [aB (by omega)];refine⟨(fX _ _).trans b,rY a,λh=>?_,λh=>⟨?_,jm h⟩⟩
  .obtain⟨d,g,_⟩:=lu h;rw [d];exact g
  .unfold DS.num;have j:(bE S s f (n+2)).2.now f=zs 512:=c e 0 (by omega);rw [eY a (by omega),eY a (by omega),j,(c e 1 (by omega))];exact D5
 .rw [aG e];exact⟨b,a,i,λh=>absurd h e⟩
section
def LG.Fit (L:LG) (S:DS):Prop:=
   (L.begun=true->S.puts.length<=L.head-L.tail/\S.num L.f<=L.ep*4294967296+L.tail)/\(L.begun=false->S.puts.length=0/\S.num L.f<(L.top+1)*4294967296)
def jy {t:Nat} (h0:0<=x) (a:x<=t) (b:t<=1000000000000000000):wrap64 (x+1)=x+1:=by
 unfold wrap64;omega
section
variable {S S':DS} {s t i:Nat} {ls:List LG} {L L':LG}
def D6 (h:S.Ok s) (a:f+1<s):(S.fl s).2.num f=S.num f:=by
 unfold DS.num;rw [eY h (by omega),eY h a]
def LG.opened (S:DS) (f n hd:Nat):LG:={LG.new S f n with ep:=(b9 S f).1,tail:=(b9 S f).2.1,head:=hd,top:=ir S f n}
end
end
section
namespace V
structure Inv (S:DS) (s:Nat) (ls:List LG) (t:Nat):Prop where
 ok:S.Ok s
 pZ:S.fL
 p6:S.puts.length<=6000
 p2:S.fuse≠0->S.puts.length<=256
 l0:0<=S.life
 lt:S.life<=t
 ol:∀L∈ls,L.Ok s/\L.life<=S.life
 li:(ls.map LG.life).Pairwise (·< ·)
 al:∀L∈ls,L.life=S.life->S.fuse≠0->L.Fit S
def jy {t:Nat} (h0:0<=x) (a:x<=t) (b:t<=1000000000000000000):wrap64 (x+1)=x+1:=by
 unfold wrap64;omega
section
variable {S S':DS} {s t i:Nat} {ls:List LG} {L L':LG}
def Inv.zero (c:S.Ok s) (pZ:S.fL) (d:S.puts.length=0) (a:0<=S.life) (b:S.life<=t):Inv S s [] t:=
   ⟨c,pZ,by omega,λ_=>by omega,a,b,λ_ h=>(by cases h),List.Pairwise.nil,λ_ h=>(by cases h)⟩
def Inv.step (h:Inv S s ls t):Inv S s ls (t+1):=⟨h.ok,h.pZ,h.p6,h.p2,h.l0,by have:=h.lt;omega,h.ol,h.li,h.al⟩
def Inv.next (h:Inv S s ls t) (b:S'.Ok s) (pZ:S'.fL) (d:S'.puts.length<=6000) (c:S'.fuse≠0->S'.puts.length<=256) (f:S'.life=S.life+1):Inv S' s ls (t+1):=by
 refine⟨b,pZ,d,c,by have:=h.l0;omega,by have:=h.lt;omega,λL a=>⟨(h.ol L a).1,?_⟩,h.li,λL a e=>?_⟩
 .have:=(h.ol L a).2;omega
 .have:=(h.ol L a).2;omega
def Inv.at (h:Inv S s ls t) (a:ls[i]? =some L):L.Ok s/\L.life<=S.life:=h.ol L (gz a)
def p7 (h:(ls.map LG.life).Pairwise (·< ·)) (g:ls[i]? =some L) (k:ls[j]? =some L') (e:L'.life=L.life):j=i:=by
 rw [List.pairwise_iff_getElem] at h;obtain⟨d,b⟩:=mL.1 g;obtain⟨f,c⟩:=mL.1 k;rcases Nat.lt_trichotomy j i with a|a|a
 .have:=h j i (by simpa using f) (by simpa using d) a;simp only [List.getElem_map,b,c] at this;omega
 .exact a
 .have:=h i j (by simpa using d) (by simpa using f) a;simp only [List.getElem_map,b,c] at this;omega
def Inv.on (h:Inv S s ls t) (g:ls[i]? =some L) (p:L.life=S.life) (l:S'.Ok s) (pZ:S'.fL) (q:S'.life=S.life) (m:S'.puts.length<=6000) (b:L'.Ok s) (Ul:L'.life=L.life) (c:S'.fuse≠0->L'.Fit S'):Inv S' s (ls.set i L') t:=by
 have bq:=(mL.1 g).1;have ru:∀M∈ls.set i L',M=L'\/∃j,j≠i/\ls[j]? =some M:=λM d=>by
  obtain⟨j,a⟩:=List.mem_iff_getElem?.1 d;by_cases e:j=i
  .subst e;rw [List.getElem?_set_self bq] at a;exact .inl (Option.some.inj a).symm
  .rw [List.getElem?_set_ne (λh=>e h.symm)] at a;exact .inr ⟨j,e,a⟩
 refine⟨l,pZ,m,λf=>?_,by have:=h.l0;omega,by have:=h.lt;omega,λM d=>?_,?_,λM d e f=>?_⟩
 .have:=c f;unfold LG.Fit at this;have n:=b.hn;have o:=b.n2;cases k:L'.begun with
  |true=>have:=(this.1 k).1;omega
  |false=>have:=(this.2 k).1;omega
 .rcases ru M d with rfl|⟨j,_,a⟩
  .exact⟨b,by omega⟩
  .have:=h.at a;exact⟨this.1,by omega⟩
 .rw [List.map_set,Ul];have:ls.map LG.life=(ls.map LG.life).set i L.life:=by
   apply List.ext_getElem?;intro j;by_cases e:j=i
   .subst e;rw [List.getElem?_set_self (by simpa using bq),Be,g];rfl
   .rw [List.getElem?_set_ne (λh=>e h.symm)]
  rw [<-this];exact h.li
 .rcases ru M d with rfl|⟨j,dM,a⟩
  .exact c f
  .exact absurd (p7 h.li g a (by omega)) dM
def Inv.same (h:Inv S s ls t) (a:ls[i]? =some L):Inv S s (ls.set i L) t:=by
 have:ls.set i L=ls:=by
  apply List.ext_getElem?;intro j;by_cases e:j=i
  .subst e;rw [List.getElem?_set_self (mL.1 a).1,a]
  .rw [List.getElem?_set_ne (λh=>e h.symm)]
 rw [this];exact h
def jL (h:L.dead S=false):L.life=S.life/\S.fuse≠0:=by
 unfold LG.dead at h;rw [Bool.or_eq_false_iff] at h;have a:=h.1;rw [fJ] at a;have:S.life=L.life:=by simpa using h.2
 exact⟨this.symm,a⟩
def km (h:L.bj S=0):L.dead S=false/\L.begun=true:=by
 unfold LG.bj at h;split at h
 .omega
 .rename_i a;split at h
  .rename_i b;exact⟨by simpa using a,b⟩
  .omega
def D6 (h:S.Ok s) (a:f+1<s):(S.fl s).2.num f=S.num f:=by
 unfold DS.num;rw [eY h (by omega),eY h a]
def Inv.take (h:Inv S s ls t) (a:t<=1000000000000000000):Inv S.take s ls (t+1):=
 h.next ⟨h.ok.len,h.ok.lo,h.ok.hi,h.ok.puts,h.ok.fuse⟩ h.pZ.take h.p6 h.p2 (jy h.l0 h.lt a)
def Inv.iy (h:Inv S s ls t) (a:t<=1000000000000000000) (l:List P3) (b:(S.iy s l).Ok s):Inv (S.iy s l) s ls (t+1):=
 h.next b (h.pZ.iy s l) (dV _) (λ_=>dV _) (jy h.l0 h.lt a)
def Rj (S:DS) (x:Int):(S.lay x).puts=S.puts/\(S.lay x).life=S.life/\(S.lay x).im=S.im/\((S.lay x).fuse≠0->S.fuse≠0):=by
 unfold DS.lay;split
 .exact⟨rfl,rfl,rfl,λh=>h⟩
 .rename_i h;exact⟨rfl,rfl,rfl,λ_=>h⟩
def Inv.lay (h:Inv S s ls t) (x:Int) (j:(S.lay x).Ok s):Inv (S.lay x) s ls t:=by
 obtain⟨a,b,i,f⟩:=Rj S x;refine⟨j,h.pZ.lay x,by rw [a];exact h.p6,λd=>by rw [a];exact h.p2 (f d),by rw [b];exact h.l0,by rw [b];exact h.lt,λL c=>by rw [b];exact h.ol L c,h.li,λL c e d=>?_⟩;have:=h.al L c (by rw [<-b];exact e) (f d);have g:∀k,(S.lay x).now k=S.now k:=λk=>by unfold DS.now DS.gL;rw [a,i]
 unfold LG.Fit DS.num at*;rw [g,g,a];exact this
def Inv.sync (h:Inv S s ls t) (a:ls[i]? =some L):Inv (L.sync S s).2 s (ls.set i L) t:=by
 unfold LG.sync;split
 .exact h.same a
 .rename_i k;obtain⟨hd,f⟩:=km (Decidable.of_not_not k);obtain⟨d,g⟩:=jL hd;have b:=(h.at a).1;have m:=b.s;have l:=b.n1;by_cases e:(S.fl s).1=0
  .have j:=jm e;refine h.on a d (rY h.ok) (h.pZ.fl s) (fX S s) (by rw [j];exact dV _) b rfl (λ_=>⟨λ_=>⟨by rw [j];exact dV _,?_⟩,λc=>by rw [f] at c;cases c⟩);rw [D6 h.ok (by omega)];exact((h.al L (gz a) d g).1 f).2
  .have:=lu e;exact absurd this.2.1 g
def Inv.start (h:Inv S s ls t) (d:ls[i]? =some L) (a:(L.start S s).2.1.Ok s):Inv (L.start S s).2.1 s (ls.set i (L.start S s).2.2) t:=by
 unfold LG.start at*;split
 .exact h.same d
 .rename_i hd;rw [aB hd] at a;obtain⟨j,n⟩:=jL (by simpa using hd:L.dead S=false);split
  .exact h.same d
  .rename_i k;rw [aB k] at a;have eH:L.begun=false:=(by simpa using k);have b:=(h.at d).1;have Fr:=(h.al L (gz d) j n).2 eH;obtain⟨q,o,r⟩:=kE b.s b.n1 b.top;have l:(((L.top+1:Nat):Int)*4294967296+((0:Nat):Int))=(((L.top+1)*4294967296:Nat):Int):=(by omega);rw [l] at a⊢;obtain⟨N,m⟩:=bQ ((L.top+1)*4294967296);rw [<-m] at a Fr⊢;have p:=iD (bu h.ok L.f (by omega)) (bu h.ok (L.f+1) (by omega)) (N:=N) (by omega) Fr.2;split
   .rename_i h0;rw [aG h0] at a;obtain⟨e,g⟩:=pY (by omega) p h0
    dsimp only at a⊢
    exact h.on d j a (h.pZ.cZ s L.f _) (iU _ _ _ _) (by omega) b rfl (λc=>absurd e c)
   .rename_i h0;rw [aB h0] at a;obtain⟨e,g⟩:=tY (s:=s) (f:=L.f) (N:=N) h.ok (by omega) (by omega) (by omega) Fr.2 (Decidable.of_not_not h0)
    dsimp only at a⊢
    refine h.on d j a (h.pZ.cZ s L.f _) (iU _ _ _ _) (by rw [g];exact dV _) ⟨q,o,b.n2,by show L.top+1<=_;omega,b.top,bS _,by show 0<=_;omega,by show 0<=_;omega,λ_=>by show 0<=_;omega⟩ rfl (λ_=>⟨λ_=>⟨by rw [g];exact dV _,?_⟩,λc=>by cases c⟩);show (cZ S s L.f (N:Int)).2.num L.f<=(L.top+1)*4294967296+0;rw [e];omega
def J9 (h:L.fW S i=0):L.bj S=0/\1<=i/\i<=8364/\L.head+dh i<=1073741824/\L.head+dh i<=L.tail+L.n:=by
 unfold LG.fW at h
 repeat' split at h
 all_goals first|omega|(rename_i a b c d e;exact⟨by omega,by omega,by omega,by omega,by omega⟩)
def NN (h:S.fL) (hd:Bytes d) (k:Nat):(cU L S s d k).2.fL:=
 mx h (λj T a=>by
  unfold jX;split
  .exact a
  .exact a.wr s _ _ (wn (my ((hd.drop _).take _)))) k
def Inv.append (h:Inv S s ls t) (e:ls[i]? =some L) (hd:Bytes d) (b:(L.append S s d).2.1.Ok s):Inv (L.append S s d).2.1 s (ls.set i (L.append S s d).2.2) t:=by
 unfold LG.append at*;split
 .exact h.same e
 .rename_i j;rw [aB j] at b;obtain⟨r,jI,mg,p,w⟩:=J9 (Decidable.of_not_not j);obtain⟨yD,k⟩:=km r;obtain⟨g,l⟩:=jL yD;have a:=(h.at e).1;have Fr:=(h.al L (gz e) g l).1 k;obtain⟨m,q,mO,ef,uV⟩:=eK a.s a.n1 a.n2 a.th (h.p2 l);have v:dh d.length<=17:=by unfold dh;omega
  obtain⟨n,o,u,x⟩:=mz (L:=L) (S:=S) (s:=s) (d:=d) (by omega) m (dh d.length);have dD:=NN (L:=L) (s:=s) h.pZ hd (dh d.length);split
  .rename_i h0;rw [aG h0] at b
   dsimp only at b⊢
   exact h.on e g b dD n (by omega) a rfl (λc=>absurd (u h0) c)
  .rename_i h0;rw [aB h0] at b
   dsimp only at b⊢
   refine h.on e g b dD n (by omega) ⟨m,q,mO,a.ep,a.top,by show L.tail<=L.head+_;omega,by show L.head+_<=_;omega,by show L.head+_<=_;omega,λ_=>p⟩ rfl (λ_=>⟨λ_=>⟨?_,?_⟩,λc=>by rw [show ({L with head:=L.head+dh d.length}:LG).begun=L.begun from rfl,k] at c;cases c⟩)
   .show _<=L.head+dh d.length-L.tail;omega
   .show DS.num _ L.f<=_;unfold DS.num;rw [o L.f (by omega),o (L.f+1) (by omega)];exact Fr.2
def Inv.format (h:Inv S s ls t) (q:t<=1000000000000000000) (f n:Int) (d:(cD S s f n).2.Ok s):Inv (cD S s f n).2 s ls (t+1):=by
 unfold cD at*;split
 .exact h.step
 .rename_i j;rw [aB j] at d;obtain⟨o,a,b,rfl,rfl,oE,ar,bd⟩:=fV (Decidable.of_not_not j);simp only [Int.toNat_natCast] at*;have zv:=jy h.l0 h.lt q;have du:S.take.Ok s:=⟨h.ok.len,h.ok.lo,h.ok.hi,h.ok.puts,h.ok.fuse⟩;obtain⟨l,g,r,u⟩:=kP (f:=a) (n:=b) du oE;have x:=sv S.take s a b;have uV:S.take.puts.length<=256:=h.p2 o;split
  .rename_i h0;rw [aG h0] at d;exact h.next d (h.pZ.take.QV s a b) (by omega) (λc=>absurd (r h0) c) (l.trans zv)
  .rename_i h0;rw [aB h0] at d;obtain⟨m,v⟩:=u (Decidable.of_not_not h0);have p:=iD (bu g a (by omega)) (bu g (a+1) (by omega)) (N:=4294967296) (by omega) (by show DS.num _ a<_;rw [m];omega);have fH:=(iU (cN S.take s a b).2 s a 4294967296).trans (l.trans zv);by_cases k:(cZ (cN S.take s a b).2 s a 4294967296).1=0
   .obtain⟨i,e⟩:=tY (s:=s) (f:=a) (N:=4294967296) g (by omega) (by omega) (by omega) (by rw [m];omega) k;have w:(cZ (cN S.take s a b).2 s a 4294967296).2.puts.length=0:=congrArg List.length e;exact h.next d ((h.pZ.take.QV s a b).cZ s a _) (by omega) (λ_=>by omega) fH
   .obtain⟨i,e⟩:=pY (by omega) p k;rw [v] at e;exact h.next d ((h.pZ.take.QV s a b).cZ s a _) (j3 e (by simp)) (λc=>absurd i c) fH
def Inv.xT (h:Inv S s ls t) (b:t<=1000000000000000000) (f n:Int) (a:(bA S s f n).1≠0):Inv (bA S s f n).2 s ls (t+1):=by
 unfold bA at*;split
 .exact h.step
 .rename_i d;rw [aB d] at a;split
  .exact h.take b
  .rename_i e;rw [aB e] at a;split
   .exact h.take b
   .rename_i g;rw [aB g] at a;obtain⟨c,i,_⟩:=lu a;rw [c];exact h.take b
def Inv.opened (h:Inv S s ls t) (A:t<=1000000000000000000) (f n:Int) (m:(bA S s f n).2.Ok s) (d:(bA S s f n).1=0) (u:(b9 S f.toNat).2.1<=hd) (v:hd<=(b9 S f.toNat).2.1+n.toNat):Inv (bA S s f n).2 s (ls ++ [LG.opened S f.toNat n.toNat hd]) (t+1):=by
 unfold bA at*;split
 .rename_i l;rw [aG l] at d;exact absurd d l
 .rename_i l;rw [aB l] at m d;split
  .rename_i j;rw [aG j] at d;exact absurd (Int.ofNat_eq_zero.1 d) j
  .rename_i j;rw [aB j] at m d;split
   .rename_i p;rw [aG p] at d;cases d
   .rename_i p;rw [aB p] at m d;obtain⟨z,a,b,rfl,rfl,oE,ar,bd⟩:=fV (Decidable.of_not_not l);simp only [Int.toNat_natCast] at*;have zv:=jy h.l0 h.lt A;have du:S.take.Ok s:=⟨h.ok.len,h.ok.lo,h.ok.hi,h.ok.puts,h.ok.fuse⟩;have o:=jm d;have fH:(S.take.fl s).2.life=S.life+1:=(fX _ _).trans zv;have E:=xW (Decidable.of_not_not j);have Pk:=D4 (n:=b) (Decidable.of_not_not j);have i:=h.next m (h.pZ.take.fl s) (by rw [o];exact dV _) (λ_=>by rw [o];exact dV _) fH;have w:(LG.opened S a b hd).life=S.life+1:=zv;refine⟨i.ok,i.pZ,i.p6,i.p2,i.l0,i.lt,λM k=>?_,?_,λM k e z=>?_⟩
    .rcases List.mem_append.1 k with g|g
     .exact i.ol M g
     .obtain rfl:=List.mem_singleton.1 g;refine⟨⟨oE,ar,bd,E.2.1,?_,u,v,?_,λc=>by cases c⟩,by omega⟩
      .show ir S a b<_;omega
      .show hd<=_;omega
    .rw [List.map_append,List.pairwise_append];refine⟨h.li,List.pairwise_singleton _ _,λx C y D=>?_⟩;obtain⟨M,k,rfl⟩:=List.mem_map.1 C;have:=(h.ol M k).2;simp only [List.map_cons,List.map_nil,List.mem_singleton] at D;omega
    .rcases List.mem_append.1 k with g|g
     .have:=(h.ol M g).2;omega
     .obtain rfl:=List.mem_singleton.1 g;refine⟨λc=>(by cases c),λ_=>⟨(by rw [o];rfl),?_⟩⟩;rw [show (LG.opened S a b hd).f=a from rfl,D6 du (by omega)];have r:S.take.num a=S.num a:=rfl;have G:(b9 S a).1=S.num a / 4294967296:=by
       have q:=Decidable.of_not_not j;unfold b9 ik at*;split at q
       .cases q
       .rename_i F;rw [aB F];rfl
      have H:(b9 S a).1<=ir S a b:=(by unfold ir;omega);rw [r];show S.num a<(ir S a b+1)*4294967296;omega
end
end V
end
abbrev CM:=List (Nat×List Int)
def CM.get:CM->Nat->Option (List Int)
 | [],_=>none
 |q :: qs,k=>if q.1=k then some q.2 else CM.get qs k
def CM.put:CM->Nat->List Int->CM
 | [],k,c=> [(k,c)]
 |q :: qs,k,c=>if k<q.1 then (k,c) :: q :: qs else if k=q.1 then (k,c) :: qs else q :: CM.put qs k c
def CM.Ok (ms:CM):Prop:=ms.Pairwise (λa b=>a.1<b.1)
def CM.keys (ms:CM):List Nat:=ms.map (·.1)
namespace CM
def lX (q:Nat×List Int) (a:CM) (k:Nat):get (q :: a) k=if q.1=k then some q.2 else get a k:=rfl
def kQ {ms:CM} (h:∀q∈ms,q.1≠k):get ms k=none:=by
 induction ms with
 |nil=>rfl
 |cons q c b=>
  unfold get;rw [aB (h q List.mem_cons_self)];exact b (λx a=>h x (List.mem_cons_of_mem _ a))
def get_mem {ms:CM} {c:List Int} (h:get ms k=some c):(k,c)∈ms:=by
 induction ms with
 |nil=>cases h
 |cons q b a=>
  unfold get at h;split at h
  .rename_i e;cases h;rw [<-e];exact List.mem_cons_self
  .exact List.mem_cons_of_mem _ (a h)
def get_of_mem {ms:CM} (b:Ok ms) {c:List Int} (h:(k,c)∈ms):get ms k=some c:=by
 induction ms with
 |nil=>cases h
 |cons q f d=>
  unfold get;rcases List.mem_cons.1 h with e|a
  .rw [<-e,aG rfl]
  .have:=(List.pairwise_cons.1 b).1 (k,c) a;rw [aB (by simp only at this;omega)];exact d (List.pairwise_cons.1 b).2 a
def kC (ms:CM) (k:Nat) (c:List Int) (j:Nat) (d:Ok ms):get (put ms k c) j=if j=k then some c else get ms j:=by
 induction ms with
 |nil=>
  unfold put;simp only [get];by_cases e:j=k
  .rw [aG e.symm,aG e]
  .rw [aB (λh=>e h.symm),aB e]
 |cons q g f=>
  unfold put;by_cases b:k<q.1
  .rw [aG b];by_cases e:j=k
   .rw [aG e];unfold get;rw [aG e.symm]
   .rw [aB e]
    conv=>lhs;unfold get
    rw [aB (λh=>e h.symm)]
  .rw [aB b];by_cases a:k=q.1
   .rw [aG a];by_cases e:j=k
    .rw [aG e];unfold get;rw [aG e.symm]
    .rw [aB e]
     conv=>lhs;unfold get
     conv=>rhs;unfold get
     rw [aB (λh=>e h.symm),aB (λh=>e (a▸h.symm))]
   .rw [aB a]
    conv=>lhs;unfold get
    by_cases e:q.1=j
    .rw [aG e,aB (λh=>a (h.symm.trans e.symm))]
     conv=>rhs;unfold get
     rw [aG e]
    .rw [aB e,f (List.pairwise_cons.1 d).2]
     conv=>rhs;rhs;unfold get
     rw [aB e]
def qU {ms:CM} {c:List Int} {q:Nat×List Int} (h:q∈put ms k c):q=(k,c)\/q∈ms:=by
 induction ms with
 |nil=>
  unfold put at h;exact .inl (List.mem_singleton.1 h)
 |cons x xs a=>
  unfold put at h;split at h
  .rcases List.mem_cons.1 h with h|h
   .exact .inl h
   .exact .inr h
  .split at h
   .rcases List.mem_cons.1 h with h|h
    .exact .inl h
    .exact .inr (List.mem_cons_of_mem _ h)
   .rcases List.mem_cons.1 h with h|h
    .exact .inr (h▸List.mem_cons_self)
    .exact(a h).imp id (List.mem_cons_of_mem _)
def vn {ms:CM} (d:Ok ms) (k:Nat) (c:List Int):Ok (put ms k c):=by
 induction ms with
 |nil=>exact List.pairwise_singleton _ _
 |cons x xs e=>
  have b:=List.pairwise_cons.1 d;unfold put;split
  .rename_i h;refine List.pairwise_cons.2 ⟨λy a=>?_,d⟩;rcases List.mem_cons.1 a with rfl|a
   .exact h
   .exact Nat.lt_trans h (b.1 y a)
  .split
   .rename_i h;exact List.pairwise_cons.2 ⟨λy a=>by show k<y.1;rw [h];exact b.1 y a,b.2⟩
   .rename_i f g;refine List.pairwise_cons.2 ⟨λy a=>?_,e b.2⟩;rcases qU a with rfl|a
    .show x.1<k;omega
    .exact b.1 y a
def sC {ms:CM} (g:Ok ms) (k:Nat) (c:List Int):(put ms k c).length=if (get ms k).isSome then ms.length else ms.length+1:=by
 induction ms with
 |nil=>rfl
 |cons x xs i=>
  have f:=List.pairwise_cons.1 g;unfold put;by_cases d:k<x.1
  .rw [aG d,kQ (λq b=>by
    rcases List.mem_cons.1 b with rfl|b
    .omega
    .have:=f.1 q b;omega)]
   rfl
  .rw [aB d];by_cases a:k=x.1
   .rw [aG a];unfold get;rw [aG a.symm];rfl
   .rw [aB a];have e:get (x :: xs) k=get xs k:=(by rw [lX,aB (λh=>a h.symm)]);rw [e,List.length_cons,i f.2,List.length_cons];split <;> rfl
def ext:∀{ms ns:CM},Ok ms->Ok ns->(∀k,get ms k=get ns k)->ms=ns
 | [], [],_,_,_=>rfl
 | [],q :: qs,_,_,h=>by
  have:=h q.1;unfold get at this;rw [aG rfl] at this;cases this
 |q :: qs, [],_,_,h=>by
  have:=h q.1;unfold get at this;rw [aG rfl] at this;cases this
 |(a,c) :: qs,(b,d) :: rs,h1,h2,h=>by
  have l:=List.pairwise_cons.1 h1;have m:=List.pairwise_cons.1 h2;have f:=h a;have i:=h b;unfold get at f i;rw [aG rfl] at f;by_cases e:a=b
  .subst e;rw [aG rfl] at f;cases f;congr 1;refine ext l.2 m.2 (λk=>?_);by_cases g:k=a
   .subst g;rw [kQ (λq j=>by have:=l.1 q j;simp only at this;omega),kQ (λq j=>by have:=m.1 q j;simp only at this;omega)]
   .have:=h k;unfold get at this;rwa [aB (λh=>g h.symm),aB (λh=>g h.symm)] at this
  .exfalso;rw [aB (λh=>e h.symm)] at f;rw [aB e,aG rfl] at i;have n:=m.1 _ (get_mem f.symm);have o:=l.1 _ (get_mem i);simp only at n o;omega
def VK {ms:CM} (a:Ok ms):(keys ms).Pairwise (·< ·):=List.Pairwise.map _ (λ_ _ h=>h) a
def bT (ms ns:CM):CM:=ns.foldl (λm q=>put m q.1 q.2) ms
def qV {ms:CM} (a:Ok ms):∀(ns:CM),Ok (bT ms ns):=λns=>by
 induction ns generalizing ms with
 |nil=>exact a
 |cons q c b=>exact b (vn a _ _)
def Rk {ms:CM} (a:Ok ms) (k:Nat):∀{ns:CM},Ok ns->get (bT ms ns) k=(get ns k).or (get ms k):=λ{ns} b=>by
 induction ns generalizing ms with
 |nil=>rfl
 |cons q f d=>
  have p:=List.pairwise_cons.1 b;show get (bT (put ms q.1 q.2) f) k=_;rw [d (vn a _ _) p.2,kC _ _ _ _ a];rw [lX];by_cases e:k=q.1
  .rw [aG e,aG e.symm,kQ (λx c=>by have:=p.1 x c;omega)];rfl
  .rw [aB e,aB (λh=>e h.symm)]
end CM
def jB:List (Nat×List Int)->Nat->Option (List Int)
 | [],_=>none
 |q :: qs,b=>(jB qs b).or (if q.1=b then some q.2 else none)
def uN {b:Nat} (h:∀q∈ps,q.1≠b):jB ps b=none:=by
 induction ps with
 |nil=>rfl
 |cons q d c=>rw [jB,c (λx a=>h x (List.mem_cons_of_mem _ a)),aB (h q List.mem_cons_self)];rfl
def l8 (a c:List (Nat×List Int)) (b:Nat):jB (a ++ c) b=(jB c b).or (jB a b):=by
 induction a with
 |nil=>simp [jB]
 |cons q d e=>
  show (jB (d ++ c) b).or _=(jB c b).or ((jB d b).or _);rw [e,Option.or_assoc]
def E6 {b:Nat} {c:List Int} (h:jB ps b=some c):(b,c)∈ps:=by
 induction ps with
 |nil=>cases h
 |cons q f d=>
  rw [jB] at h;cases a:jB f b with
  |some x=>
   rw [a] at h;cases h;exact List.mem_cons_of_mem _ (d a)
  |none=>
   rw [a] at h;by_cases e:q.1=b
   .rw [aG e] at h;cases h;rw [<-e];exact List.mem_cons_self
   .rw [aB e] at h;cases h
def Ue {b:Nat} (d:i<ps.length) (c:ps[i].1=b) (g:∀j (f:j<ps.length),i<j->ps[j].1≠b):jB ps b=some ps[i].2:=by
 have e:ps=ps.take i ++ ps[i] :: ps.drop (i+1):=by rw [<-List.drop_eq_getElem_cons d,List.take_append_drop]
 have k:jB (ps.drop (i+1)) b=none:=uN (λq l=>by
  obtain⟨j,f,rfl⟩:=List.mem_iff_getElem.1 l;rw [List.getElem_drop];exact g _ _ (by omega))
 have a:=l8 (ps.take i) (ps[i] :: ps.drop (i+1)) b;rw [<-e,jB,k,aG c] at a;rw [a];simp
def CG (b:Nat):∀{ms:CM},CM.Ok ms->CM.get (CM.bT ms ps) b=(jB ps b).or (CM.get ms b):=by
 induction ps with
 |nil=>intro ms _;rfl
 |cons q d c=>
  intro ms a;show CM.get (CM.bT (CM.put ms q.1 q.2) d) b=_;rw [c (CM.vn a _ _),CM.kC _ _ _ _ a,jB,Option.or_assoc];congr 1;by_cases e:b=q.1
  .rw [aG e,aG e.symm];rfl
  .rw [aB e,aB (λh=>e h.symm)];rfl
def p8 (ms a c:CM):CM.bT ms (a ++ c)=CM.bT (CM.bT ms a) c:=List.foldl_append
def rO:CM.Ok []:=List.Pairwise.nil
def gZ (ps:List (Nat×List Int)) (b:Nat):CM.get (CM.bT [] ps) b=jB ps b:=by rw [CG b rO];simp [CM.get]
def below (ms:CM) (b:Nat):CM:=ms.filter (λq=>decide (q.1<b))
def oF {ms:CM} {b:Nat} (h:∀q∈ms,¬q.1<b):below ms b= []:=by
 unfold below;rw [List.filter_eq_nil_iff];intro q a;simpa using h q a
def CH {ms:CM} {b:Nat} (h:∀q∈ms,q.1<b):below ms b=ms:=by
 unfold below;rw [List.filter_eq_self];intro q a;simpa using h q a
def sD (q:Nat×List Int) (a:CM) (b:Nat):below (q :: a) b=if q.1<b then q :: below a b else below a b:=by
 unfold below;rw [List.filter_cons];simp
def zw {ms:CM} (g:CM.Ok ms) (b:Nat):below ms (b+1)=below ms b ++ (match CM.get ms b with|none=> []|some c=> [(b,c)]):=by
 induction ms with
 |nil=>rfl
 |cons q f e=>
  have a:=List.pairwise_cons.1 g;rw [sD,sD,CM.lX];rcases Nat.lt_trichotomy q.1 b with h|h|h
  .rw [aG (by omega),aG h,aB (by omega),e a.2];rfl
  .rw [aG (by omega),aB (by omega),aG h,oF (ms:=f) (b:=b+1) (λx d=>by have:=a.1 x d;omega),oF (ms:=f) (b:=b) (λx d=>by have:=a.1 x d;omega)];obtain⟨i,j⟩:=q;subst h;rfl
  .rw [aB (by omega),aB (by omega),aB (by omega),e a.2]
def sE {ms:CM} (a:CM.Ok ms) {b:Nat} (h:CM.get ms b=none):below ms (b+1)=below ms b:=by rw [zw a,h,List.append_nil]
def sF {ms:CM} (a:CM.Ok ms) {b:Nat} {c:List Int} (h:CM.get ms b=some c):below ms (b+1)=below ms b ++ [(b,c)]:=by rw [zw a,h]
def sG (ms:CM):below ms 0= []:=oF (λ_ _=>by omega)
def lP (a:Option Addr) (n c:Nat) (l:List Int) (w:World) (t:n<=140737488355328) (q:Src w a n l):
  Calls prog 91 #[.slice a n c] w λe w'=>∃g,e= .returned (.slice (some (aD g 0)) n n)/\w.heap.size<=g/\ay w' 5 g n (bs l)/\bW w w':=by
 obtain⟨r,j,gB,dC,eu⟩:=info_parts gh;have H:=yh q;go_in;go_wp2_with (at_make;refine wpList_make_full _ rfl _ _ 22 rfl w.heap.size 5 r (.int .u8 0) 1 underlying22 j gB dC _ _ _ _ n rfl rfl ?c1 ?c2 ?c3 ?c4 ?c5 ?_);case c1=>rfl
 case c2=>rfl
 case c3=>rw [eu];omega
 case c4=>unfold maxLen;omega
 case c5=>exact bS _
 intro w1 aA aR;have p:=lS aA;have b:=(bi _ w).grown aR (bS _) (by intro k d;cases d);have i:=p.full (by simp [bs]);have eh:=H.o.later b;have m:=H.o.1;obtain⟨s,bD,f,d,_⟩:=yv w1 3 (some (aD w.heap.size 0)) w.heap.size 0 n n a n c (bs (List.replicate n 0)) l i eh (λ_=>rfl) (by simp [bs]);have bd:=b.trans (d.below (λk h=>by omega) b.size);have fy:ay s 5 w.heap.size n (bs l):=by
  have e:splice (bs (List.replicate n 0)) 0 (bs (l.take n))=bs l:=by
   rw [nr (by omega)];simp [splice,bs];omega
  rw [e] at f;have:=ay.xL f (by simp [bs,maxLen];omega);simpa [bs,m] using this
 go_wp2;go_ret;exact⟨w.heap.size,rfl,bS _,fy,bd⟩
structure cy (w:World) (F:Nat->Prop) (r s:Nat) (S:DS) (gl cl:Nat) (ls:List Value) (pv:Value) (xs:List Value):Prop where
 fr:F r
 fl:F gl
 lt:∀k,F k->k<w.heap.size
 dI:w.heap[r]? =some (.cells (bJ (.slice (some ⟨gl,0,none⟩) s cl) pv S.fuse S.life S.reads S.writes S.flushes S.refused) 101 (0,0))
 last:ay w 22 gl cl ls
 Ka:ls.length=s
 zx:∀k,k<s->∃g c,ls[k]? =some (.slice (some (aD g 0)) 512 c)/\F g/\ay w 5 g c (bs (bL S.im k))
 di:w.ownsRow 0 117 2 pv S.puts.length xs
 Pq:∀g,pv.ownBlock=some g->F g
 puts:∀i (hi:i<S.puts.length),∃g c,xs[2*i]? =some (iV ((S.puts[i].1:Nat):Int))/\xs[2*i+1]? =some (.slice (some (aD g 0)) 512 c)/\F g/\ay w 5 g c (bs S.puts[i].2)
 ok:S.Ok s
def aC (w:World) (F:Nat->Prop) (r s:Nat) (S:DS):Prop:=∃gl cl ls pv xs,cy w F r s S gl cl ls pv xs
def aF (h:w.ownsRow base e size v n xs) (d:∀g,v.ownBlock=some g->w'.heap[g]? =w.heap[g]?):w'.ownsRow base e size v n xs:=by
 obtain⟨b,h|⟨g,a,cur,rfl,f,tj,c⟩⟩:=h
 .exact⟨b, .inl h⟩
 .exact⟨b, .inr ⟨g,a,cur,rfl,f,(d g rfl).trans tj,c⟩⟩
def cy.agree {r:Nat} {l:Value} (h:cy w F r s S gl cl ls l xs) (o:w.heap.size<=w'.heap.size) (a:∀k,F k->w'.heap[k]? =w.heap[k]?):cy w' F r s S gl cl ls l xs:=by
 refine⟨h.fr,h.fl,λk j=>i5 (h.lt k j) o,(a r h.fr).trans h.dI,h.last.agree (a gl h.fl),h.Ka,λk j=>?_,aF h.di (λg e=>a g (h.Pq g e)),h.Pq,λi n=>?_,h.ok⟩
 .obtain⟨g,c,f,b,d⟩:=h.zx k j;exact⟨g,c,f,b,d.agree (a g b)⟩
 .obtain⟨g,c,f,b,d,m⟩:=h.puts i n;exact⟨g,c,f,b,d,m.agree (a g d)⟩
def aC.lt {r:Nat} (h:aC w F r s S):∀k,F k->k<w.heap.size:=by obtain⟨b,a,c,d,xs,h⟩:=h;exact h.lt
def aC.ok {r:Nat} (h:aC w F r s S):S.Ok s:=by obtain⟨b,a,c,d,xs,h⟩:=h;exact h.ok
def aC.aw {r:Nat} (h:aC w F r s S) (k:aa G w w') (hd:∀k,F k->¬G k):aC w' F r s S:=by
 obtain⟨c,b,d,e,xs,h⟩:=h;exact⟨c,b,d,e,xs,h.agree k.size (λj a=>k.block j (h.lt j a) (hd j a))⟩
def cy.mono {r:Nat} {j:Value} (h:cy w F r s S gl cl ls j xs) (a:∀k,F k->G k) (o:∀k,G k->k<w.heap.size):cy w G r s S gl cl ls j xs:=
   ⟨a _ h.fr,a _ h.fl,o,h.dI,h.last,h.Ka,λk n=>by obtain⟨g,c,b,d,f⟩:=h.zx k n;exact⟨g,c,b,a _ d,f⟩,h.di,λg e=>a _ (h.Pq g e),λi m=>by
  obtain⟨g,c,b,d,f,l⟩:=h.puts i m;exact⟨g,c,b,d,a _ f,l⟩,h.ok⟩
def dS {i:Nat×Nat} (h:w.ownsRow base e size v n xs) (b:v.ownBlock=some g) (k:w.heap[q]? =some (.cells cur e' i)) (j:e'≠e):g≠q:=by
 obtain⟨_,⟨rfl,_⟩|⟨l,d,c,rfl,_,a,_⟩⟩:=h
 .simp [Value.ownBlock] at b
 .simp [Value.ownBlock] at b;intro f;rw [b,f,k] at a;simp at a;exact j a.2.1
def cy.nx {r:Nat} {S':DS} {l:Value} (h:cy w F r s S gl cl ls l xs) (a:aa (λk=>k=r) w w')
    (p:w'.heap[r]? =some (.cells (bJ (.slice (some ⟨gl,0,none⟩) s cl) l S'.fuse S'.life S'.reads S'.writes S'.flushes S'.refused) 101 (0,0))) (m:S'.im=S.im) (j:S'.puts=S.puts) (o: -1<=S'.fuse/\S'.fuse<=9223372036854775807):
  cy w' F r s S' gl cl ls l xs:=by
 refine⟨h.fr,h.fl,λk q=>i5 (h.lt k q) a.size,p,h.last.other a h.dI (by decide),h.Ka,λk Bj=>?_,?_,h.Pq,?_,⟨?_,h.ok.lo,h.ok.hi,?_,o⟩⟩
 .obtain⟨g,c,b,d,f⟩:=h.zx k Bj;rw [m];exact⟨g,c,b,d,f.other a h.dI (by decide)⟩
 .rw [j];exact aF h.di (λg e=>a.block g (h.lt g (h.Pq g e)) (dS h.di e h.dI (by decide)))
 .rw [j];intro i t;obtain⟨g,c,b,d,f,n⟩:=h.puts i t;exact⟨g,c,b,d,f,n.other a h.dI (by decide)⟩
 .rw [m];exact h.ok.len
 .rw [j];exact h.ok.puts
def cy.set {r:Nat} {a:Value} (h:cy w F r s S gl cl ls a xs) (i:Nat) (v:Value):
    (w.setCell ⟨r,i,none⟩ v).heap[r]? =some (.cells ((bJ (.slice (some ⟨gl,0,none⟩) s cl) a S.fuse S.life S.reads S.writes S.flushes S.refused).setIfInBounds i v) 101 (0,0))/\aa (λk=>k=r) w (w.setCell ⟨r,i,none⟩ v):=
   ⟨heap_setCell_same _ _ _ _ _ _ h.dI,aa.setCell (F:=λk=>k=r) w (p:=(aD r i)) rfl v⟩
def cy.refused {r:Nat} {a:Value} (h:cy w F r s S gl cl ls a xs):
  cy (w.setCell ⟨r,7,none⟩ (.int .i64 (wrap64 (S.refused+1)))) F r s S.refuse gl cl ls a xs:=
 h.nx (h.set 7 _).2 ((h.set 7 _).1.trans (by simp [bJ,DS.refuse])) rfl rfl h.ok.fuse
def mA {r:Nat} (h:aC w F r s S):
  Calls prog 52 #[pQ r] w λe w'=>e= .returned (iV s)/\w'=w:=by
 obtain⟨c,b,d,f,xs,h⟩:=h;have a:=aM h.dI;go_in;go_wp2;go_ret;exact⟨rfl,rfl⟩
def kn {r:Nat} (h:aC w F r s S):
  Calls prog 50 #[pQ r] w λe w'=>e= .returned (.bool (S.fuse == 0))/\w'=w:=by
 obtain⟨c,b,d,f,xs,h⟩:=h;have a:=bK h.dI;go_in;go_wp2;go_ret;exact⟨rfl,rfl⟩
def nK {r:Nat} (h:aC w F r s S):
  Calls prog 18 #[pQ r] w λe w'=>e= .returned (iV S.life)/\w'=w:=by
 obtain⟨c,b,d,f,xs,h⟩:=h;have a:=fQ h.dI;go_in;go_wp2;go_ret;exact⟨rfl,rfl⟩
def zy {r:Nat} (h:aC w F r s S):
  Calls prog 53 #[pQ r] w λe w'=>e= .returned (iV (wrap64 (S.life+1)))/\aC w' F r s S.take/\aa F w w':=by
 obtain⟨b,a,d,f,xs,h⟩:=h;have g:=fQ h.dI;have i:=ae h.dI 3;have c:aC (w.setCell ⟨r,3,none⟩ (.int .i64 (wrap64 (S.life+1)))) F r s S.take/\aa F w (w.setCell ⟨r,3,none⟩ (.int .i64 (wrap64 (S.life+1)))):=
    ⟨⟨b,a,d,f,xs,h.nx (h.set 3 _).2 ((h.set 3 _).1.trans (by simp [bJ,DS.take])) rfl rfl h.ok.fuse⟩,aa.setCell w h.fr _⟩
 go_in;go_wp2;go_ret;exact⟨rfl,(yh c).out⟩
def BE (w:World) (b o:Nat) (v u:Value):(w.setCell ⟨b,o,none⟩ v).setCell ⟨b,o,none⟩ u=w.setCell (aD b o) u:=by
 unfold World.setCell;congr 1;apply Array.ext_getElem?;intro i;simp only [Array.getElem?_modify];by_cases e:b=i
 .subst e;simp only [if_true];cases w.heap[b]? with
  |none=>rfl
  |some a=>cases a <;> simp
 .simp [e]
def Rl {r:Nat} (h:aC w F r s S) (a:Int) (p:a<=9223372036854775807):
  Calls prog 22 #[pQ r,iV a] w λe w'=>e= .returned (.tuple #[])/\aC w' F r s (S.lay a)/\aa F w w':=by
 obtain⟨g,f,i,j,xs,h⟩:=h;have m:=bK h.dI;have n:=ae h.dI 2;by_cases b:S.fuse=0
 .have k:(S.fuse == 0)=true:=by simp [b]
  have c:aC w F r s (S.lay a):=by simp only [DS.lay,b,if_true];exact⟨g,f,i,j,xs,h⟩
  go_in;go_wp2;exact bodyPost_ret (results_none rfl _ _ _) rfl ⟨rfl,(yh c).out,aa.refl _ _⟩
 .have k:(S.fuse == 0)=false:=by simp [b]
  have c:∀v,v=max a (-1)->aC (w.setCell ⟨r,2,none⟩ (.int .i64 v)) F r s (S.lay a)/\aa F w (w.setCell ⟨r,2,none⟩ (.int .i64 v)):=λv l=>by
   subst l;simp only [DS.lay,b,if_false];exact⟨⟨g,f,i,j,xs,h.nx (h.set 2 _).2 ((h.set 2 _).1.trans (by simp [bJ])) rfl rfl (by simp only;omega)⟩,aa.setCell w h.fr _⟩
  have Ml:=λv u=>BE w r 2 v u;have d:=yh c;by_cases aoA:a<0
  .go_in;go_wp2
   go_end0
   exact⟨rfl,d.o (-1) (by omega)⟩
  .go_in;go_wp2
   go_end0
   exact⟨rfl,d.o a (by omega)⟩
def zz (r:Nat) (a:Int) (w:World) (b:w.cell? (aD r 2)=some (iV a)) (c:w.frozen? (aD r 2)=false) (d: -1<=a):
  Calls prog 112 #[pQ r] w λe w'=>e= .returned (.tuple #[])/\w'=if 0<a then w.setCell ⟨r,2,none⟩ (.int .i64 (wrap64 (a-1))) else w:=by
 by_cases h:0<a
 .go_in;go_wp2
  go_end0
  exact⟨rfl,rfl⟩
 .go_in;go_wp2
  go_end0
  exact⟨rfl,rfl⟩
def cy.yC {r:Nat} {b:Value} (h:cy w F r s S gl cl ls b xs):
  cy (if 0<S.fuse then w.setCell ⟨r,2,none⟩ (.int .i64 (wrap64 (S.fuse-1))) else w) F r s S.gq gl cl ls b xs/\aa F w (if 0<S.fuse then w.setCell ⟨r,2,none⟩ (.int .i64 (wrap64 (S.fuse-1))) else w):=by
 have c:=h.ok.fuse;by_cases a:0<S.fuse
 .rw [aG a];have e:wrap64 (S.fuse-1)=S.fuse-1:=by unfold wrap64;omega
  refine⟨h.nx (h.set 2 _).2 ((h.set 2 _).1.trans ?_) rfl rfl ?_,aa.setCell w h.fr _⟩
  .rw [e];simp [bJ,DS.gq,a]
  .simp only [DS.gq,aG a];omega
 .rw [aB a];have e:S.gq=S:=by simp [DS.gq,a]
  rw [e];exact⟨h,aa.refl _ _⟩
def Kb {r:Nat} (h:aC w F r s S):
  Calls prog 67 #[pQ r] w λe w'=>e= .returned (.agg (ee S.reads S.writes S.flushes S.refused S.puts.length))/\bW w w':=by
 obtain⟨p,o,q,f,xs,h⟩:=h;have rF:=h.lt r h.fr;have xD:∃a c,f= .slice a S.puts.length c:=by
  obtain⟨_,⟨e,d⟩|⟨g,b,cur,e,_⟩⟩:=h.di
  .exact⟨none,0,by rw [e,d]⟩
  .exact⟨_,_,e⟩
 obtain⟨a,c,rfl⟩:=xD;obtain⟨i,j,k,l,m,n⟩:=jE (bG h.dI) (gG h.dI) (sb h.dI) (wZ h.dI) (rt h.dI) (Dp h.dI);go_in;go_wp2;refine bodyPost_ret (v:= .agg (ee S.reads S.writes S.flushes S.refused S.puts.length)) (by simp [results,results67,go_sem,ee]) rfl ⟨rfl,?_⟩;exact((bi _ w).alloc (bS _) _).alloc (by simp) _
def fo (a b:List (Nat×List Int)) (k:Nat):au (a ++ b) k=au a k ++ au b k:=by simp [au]
def kR {puts:List (Nat×List Int)} (h:∀q∈puts,q.1≠k):au puts k= []:=by
 unfold au;rw [List.map_eq_nil_iff,List.filter_eq_nil_iff];intro q a;have:=h q a;simpa using this
def Rm (f:i<S.puts.length) (e:S.puts[i].1=k) (g:∀j (a:j<S.puts.length),i<j->S.puts[j].1≠k):S.now k=S.puts[i].2:=by
 have b:S.puts=S.puts.take i ++ (S.puts[i] :: S.puts.drop (i+1)):=by
  rw [<-List.drop_eq_getElem_cons f,List.take_append_drop]
 have c:au (S.puts.drop (i+1)) k= []:=kR (λq l=>by
  obtain⟨j,a,rfl⟩:=List.mem_iff_getElem.1 l;rw [List.getElem_drop];exact g _ (by simp at a;omega) (by omega))
 have d:au S.puts k=au (S.puts.take i) k ++ [S.puts[i].2]:=by
  conv=>lhs;rw [b]
  rw [fo,show S.puts[i] :: S.puts.drop (i+1)= [S.puts[i]] ++ S.puts.drop (i+1) from rfl,fo,c];simp [au,e]
 unfold DS.now DS.gL;rw [d];simp [List.getD]
def VL (h:∀j (a:j<S.puts.length),S.puts[j].1≠k):S.now k=bL S.im k:=by
 apply tA;apply kR;intro q b;obtain⟨j,a,rfl⟩:=List.mem_iff_getElem.1 b;exact h j a
def cy.form {r:Nat} {m:Value} (h:cy w F r s S gl cl ls m xs):
  ∃a c,m= .slice a S.puts.length c/\(0<S.puts.length->∃b,a=some (aD b 0)/\∀i (f:i<S.puts.length),∃g d,w.cell? ⟨b,i*2,none⟩=some (iV ((S.puts[i].1:Nat):Int))/\w.cell? ⟨b,i*2+1,none⟩=some (.slice (some (aD g 0)) 512 d)/\F g/\ay w 5 g d (bs S.puts[i].2)):=by
 have j:=h.di;obtain⟨_,⟨e,u⟩|⟨b,n,cur,e,_⟩⟩:=h.di
 .exact⟨none,0,by rw [e,u],λh0=>by omega⟩
 .refine⟨_,_,e,λ_=>⟨b,rfl,λi f=>?_⟩⟩;obtain⟨g,d,o,p,q,t⟩:=h.puts i f;have k:=j.cells (g:=b) (by rw [e];rfl) _ _ o;have l:=j.cells (g:=b) (by rw [e];rfl) _ _ p;rw [aN,Nat.zero_add] at k l;exact⟨g,d,by rw [Nat.mul_comm];exact k,by rw [Nat.mul_comm];exact l,q,t⟩
def jM {r:Nat} (h:aC w F r s S) (k:Nat) (y:k<s) (aU:S.puts.length<=5000000000000):
  Calls prog 69 #[pQ r,iV (k:Int)] w λe w'=>∃g c,e= .returned (.slice (some (aD g 0)) 512 c)/\F g/\ay w 5 g c (bs (S.now k))/\w'=w:=by
 obtain⟨E,D,H,J,xs,h⟩:=h;obtain⟨a,c,rfl,sH⟩:=h.form;have A:=aM h.dI;have C:=bG h.dI;obtain⟨v,cs,xw,Uw,pB⟩:=h.zx k y;have u:=h.last.cell xw;have l:=sH;have d:=pB;have ew:(k:Int)<(s:Int):=by omega
 clear h sH pB xw;go_in;go_wp2;go_loopw [5] (λi wr=>∃j:Nat,j<=S.puts.length/\i=iV ((j:Int)-1)/\wr=w/\∀i (b:i<S.puts.length),j<=i->S.puts[i].1≠k) (λi _=>(intOf i+1).toNat);case atStart=>exact⟨S.puts.length,bS _,rfl,rfl,λi b h=>by omega⟩
 case round=>
  obtain⟨j,n,rfl,rfl,i9⟩:=hrel;have nX:=i9;clear i9;cases j with
  |zero=>
   rw [<-(VL (S:=S) (k:=k) (λj n=>nX j n (by omega)))] at d;go_wp2;go_ret;exact⟨v,cs,rfl,Uw,d,rfl⟩
  |succ j=>
   obtain⟨G,rfl,p⟩:=l (by omega);obtain⟨g,t,z,I,x,q⟩:=p j (by omega);have m:=q;clear p q;by_cases f:S.puts[j].1=k
   .have o:=Rm (S:=S) (by omega) f (λi b h=>nX i b (by omega));rw [f] at z;rw [<-o] at m;clear o;go_wp2;go_ret;exact⟨g,t,rfl,x,m,rfl⟩
   .have dM:(((S.puts[j].1:Nat):Int) == (k:Int))=false:=(by rw [Bool.eq_false_iff,ne_eq,beq_iff_eq];omega);have Kc:∀i (b:i<S.puts.length),j<=i->S.puts[i].1≠k:=λi b h=>by
     by_cases e:i=j
     .subst e;exact f
     .exact nX i b (by omega)
    have ZE:=Kc;clear Kc nX f m;go_wp2;go_roundw;case rel=>exact⟨j,by omega,by go_num,trivial,ZE⟩
    case measure=>simp [intOf]
def Mm:(prog.info? 117).map (λi=>(i.zero,i.size,i.bytes))=some (some (.agg #[iV 0, .slice none 0 0]),2,32):=by kernel_rfl
def cy.wrote {w1:World} {r:Nat} {z:Value} (h:cy w F r s S gl cl ls z xs) (M:k<s) (N:l.length=512) {p f cz:Nat} {o:Obj}
    (ar:bW w w1) (J:w.heap.size<=g) (G:ay w1 5 g p (bs l))
    (aA:w2.ownsRow 0 117 2 (.slice (some (aD f 0)) (S.puts.length+1) cz) (S.puts.length+1) (xs ++ [iV (k:Int), .slice (some (aD g 0)) 512 p]))
    (aR:(w1.alloc o).grownBy w2 z.ownBlock) (is:z.ownBlock=some f\/f=w1.heap.size+1):
  w2.heap[r]? =w.heap[r]?/\cy (w2.setCell ⟨r,1,none⟩ (.slice (some ⟨f,0,none⟩) (S.puts.length+1) cz)) (more F w (w2.setCell ⟨r,1,none⟩ (.slice (some ⟨f,0,none⟩) (S.puts.length+1) cz))) r s (S.put k l) gl cl ls (.slice (some (aD f 0)) (S.puts.length+1) cz) (xs ++ [iV (k:Int), .slice (some (aD g 0)) 512 p])/\
   aa F w (w2.setCell ⟨r,1,none⟩ (.slice (some ⟨f,0,none⟩) (S.puts.length+1) cz)):=by
 have bd:=ar.alloc ar.size o;have sf:=ar.size;have YU:(w1.alloc o).heap.size=w1.heap.size+1:=by simp
 have jC:=aR.size;have rF:=h.lt r h.fr;have m:=λb a x=>(aR.block b (by omega) x).trans (bd.block b a);have u:some r≠z.ownBlock:=λe=>dS h.di e.symm h.dI (by decide) rfl;have fy:=m r rF u;have XP:∀(b:Nat) (cur:Array Value) (e:TypeId) (E:Nat×Nat),w.heap[b]? =some (Obj.cells cur e E)->e≠117->w2.heap[b]? =w.heap[b]? :=λb cur e E a I=>
  m b (lR.1 a).1 (λt=>dS h.di t.symm a I rfl)
 have ada:(w2.setCell ⟨r,1,none⟩ (.slice (some ⟨f,0,none⟩) (S.puts.length+1) cz)).heap.size=w2.heap.size:=by simp [World.setCell]
 have d:∀b,b≠r->(w2.setCell ⟨r,1,none⟩ (.slice (some ⟨f,0,none⟩) (S.puts.length+1) cz)).heap[b]? =w2.heap[b]? :=λb a=>Below.heap_setCell _ _ _ _ a;have Mn:∀b c D,ay w 5 b c D->ay (w2.setCell ⟨r,1,none⟩ (.slice (some ⟨f,0,none⟩) (S.puts.length+1) cz)) 5 b c D:=λb c D a=>by
  have dM:=a.ne h.dI (by decide);have eH:=a;obtain⟨cur,gW,_⟩:=eH;exact a.agree ((d b dM).trans (XP b cur _ _ gW (by decide)))
 have UW:=G.lt;have tW:g≠r:=by omega
 have Rn:f<w2.heap.size:=by
  obtain⟨_,⟨e,_⟩|⟨v,_,cur,e,_,a,_⟩⟩:=aA
  .cases e
  .cases e;exact(lR.1 a).1
 have aoC:f≠r:=λe=>by
  rcases is with n|n
  .rw [e] at n;exact u n.symm
  .omega
 refine⟨fy,⟨.inl h.fr, .inl h.fl,λb a=>?_,?_,?_,h.Ka,λj L=>?_,?_,λb a=>?_,λi K=>?_,⟨h.ok.len,h.ok.lo,h.ok.hi,λq y=>?_,h.ok.fuse⟩⟩,?_⟩
 .rw [ada];rcases a with a|a
  .have:=h.lt b a;omega
  .rw [ada] at a;exact a.2
 .rw [heap_setCell_same _ _ _ _ _ _ (fy.trans h.dI)];simp [bJ,DS.put]
 .have dM:=h.last.ne h.dI (by decide);have eH:=h.last;obtain⟨cur,gW,_⟩:=eH;exact h.last.agree ((d gl dM).trans (XP gl cur _ _ gW (by decide)))
 .obtain⟨v,c',t,A,C⟩:=h.zx j L;exact⟨v,c',t, .inl A,Mn _ _ _ C⟩
 .have:(S.put k l).puts.length=S.puts.length+1:=by simp [DS.put]
  rw [this];exact aF aA (λb a=>d b (λe=>by simp [Value.ownBlock] at a;omega))
 .simp [Value.ownBlock] at a;subst a;rcases is with n|n
  .exact .inl (h.Pq f n)
  .exact .inr ⟨by omega,by omega⟩
 .have IV:=h.di.1;by_cases ny:i<S.puts.length
  .obtain⟨v,c',t,A,C,H⟩:=h.puts i ny;refine⟨v,c',?_,?_, .inl C,?_⟩
   .rw [List.getElem?_append_left (by omega),t];simp [DS.put,List.getElem_append_left ny]
   .rw [List.getElem?_append_left (by omega),A]
   .simp only [DS.put,List.getElem_append_left ny];exact Mn _ _ _ H
  .have Fd:i=S.puts.length:=(by simp [DS.put] at K;omega);subst Fd;refine⟨g,p,?_,?_, .inr ⟨J,by omega⟩,?_⟩
   .rw [List.getElem?_append_right (by omega),show 2*S.puts.length-xs.length=0 by omega];simp [DS.put]
   .rw [List.getElem?_append_right (by omega),show 2*S.puts.length+1-xs.length=1 by omega];simp
   .have:ay (w2.setCell ⟨r,1,none⟩ (.slice (some ⟨f,0,none⟩) (S.puts.length+1) cz)) 5 g p (bs l):=by
     refine G.agree ((d g tW).trans ((aR.block g (by omega) (λe=>?_)).trans (Below.heap_alloc _ _ _ UW)));have:=h.lt _ (h.Pq g e.symm);omega
    simpa [DS.put] using this
 .simp only [DS.put,List.mem_append,List.mem_singleton] at y;rcases y with y|rfl
  .exact h.ok.puts q y
  .exact⟨M,N⟩
 .refine⟨aR.os.trans bd.os,aR.tape.trans bd.tape,aR.output.trans bd.output,by omega,λb a x=>?_⟩;exact(d b (λe=>x (e▸h.fr))).trans (m b a (λe=>x (h.Pq b e.symm)))
def TwR (w:World) (l:List Int) (v:Value) (w':World):Prop:=∃g,v= .slice (some (aD g 0)) 512 512/\w.heap.size<=g/\ay w' 5 g 512 (bs l)/\bW w w'
def vo {P:Program} {b:Array Oper} {o:Oper} {a:Act} {K:Act->World->Prop} {Q:Exit->Act->World->Prop} {E:Prop} (FU:o.guard=none) (f:FuncId) (args:Array Value)
    (IR:(execOp a.eval o).run P w= .ok (.enter f args) w) (R:Value->World->Prop) (c:Calls P f args w λe w'=>∃v,e= .returned v/\R v w') (h:∀v w',R v w'->K (a.put o.dst v) w'):
  if Region.wanted o (yielded b a.tmps)=true then Oper.wp P o a w K Q else E:=by
 have g:Region.wanted o (yielded b a.tmps)=true:=by simp [Region.wanted,FU]
 rw [aG g];unfold Oper.wp;rw [IR,Oper.upon_enter];refine c.mono ?_;rintro e w' ⟨v,rfl,d⟩;exact h v w' d
def Gq {r:Nat} (h:aC w F r s S) (b:Int) (a:Option Addr) (n c:Nat) (i:S.fuse=0):
  Calls prog 54 #[pQ r,iV b, .slice a n c] w λe w'=>e= .returned (iV 3)/\w'=w:=by
 obtain⟨g,f,j,k,xs,h⟩:=h;have d:=bK h.dI;go_in;go_wp2;go_ret;exact⟨rfl,rfl⟩
def D7 {r:Nat} (h:aC w F r s S) (a:Int) (k:Option Addr) (n c:Nat) (m:S.fuse≠0) (d:a<0\/(s:Int)<=a):
  Calls prog 54 #[pQ r,iV a, .slice k n c] w λe w'=>e= .returned (iV 11)/\aC w' F r s S.refuse/\aa F w w':=by
 obtain⟨g,f,i,j,xs,h⟩:=h;have q:=aM h.dI;have t:=bK h.dI;have u:=rt h.dI;have v:=ae h.dI 7;have x:(S.fuse == 0)=false:=by simp [m]
 have b:=yh (aH h.refused (aa.setCell (F:=F) w (p:=(aD r 7)) h.fr (iV (wrap64 (S.refused+1)))));rcases d with d|d
 .go_in;go_wp2;go_ret;exact⟨rfl,⟨g,f,i,j,xs,b.o.1⟩,b.o.2⟩
 .have l:¬a<0:=by omega
  go_in;go_wp2;go_ret;exact⟨rfl,⟨g,f,i,j,xs,b.o.1⟩,b.o.2⟩
def BF {r:Nat} (h:aC w F r s S) (k:Nat) (b:Option Addr) (n c:Nat) (g:S.fuse≠0) (v:k<s) (x:n≠512):
  Calls prog 54 #[pQ r,iV (k:Int), .slice b n c] w λe w'=>e= .returned (iV 2)/\aC w' F r s S.refuse/\aa F w w':=by
 obtain⟨f,d,i,j,xs,h⟩:=h;have l:=aM h.dI;have m:=bK h.dI;have q:=rt h.dI;have t:=ae h.dI 7;have u:(S.fuse == 0)=false:=by simp [g]
 have a:=yh (aH h.refused (aa.setCell (F:=F) w (p:=(aD r 7)) h.fr (iV (wrap64 (S.refused+1)))));have dM:((n:Int) != 512)=true:=by rw [gA];omega
 have xM:¬(k:Int)<0:=by omega
 have ff:¬(s:Int)<=(k:Int):=by omega
 go_in;go_wp2;go_ret;exact⟨rfl,⟨f,d,i,j,xs,a.o.1⟩,a.o.2⟩
def cy.Jj {r:Nat} {a:Value} (h:cy w F r s S gl cl ls a xs):
  cy (w.setCell ⟨r,5,none⟩ (.int .i64 (wrap64 (S.writes+1)))) F r s S.wrote gl cl ls a xs:=
 h.nx (h.set 5 _).2 ((h.set 5 _).1.trans (by simp [bJ,DS.wrote])) rfl rfl h.ok.fuse
def Kd {r:Nat} {f:Value} (d:F r) (h:cy w3 (more F w w3) r s S gl cl ls f xs) (i:aa F w w3):
  w3.cell? (aD r 5)=some (iV S.writes)/\w3.frozen? (aD r 5)=false/\
  Calls prog 112 #[pQ r] (w3.setCell ⟨r,5,none⟩ (.int .i64 (wrap64 (S.writes+1)))) λe w'=>e= .returned (.tuple #[])/\aC w' (more F w w') r s S.wrote.gq/\aa F w w':=by
 have a:=h.Jj;have dW:aa F w (w3.setCell ⟨r,5,none⟩ (.int .i64 (wrap64 (S.writes+1)))):=i.trans (aa.setCell (F:=λk=>k=r) w3 (p:=(aD r 5)) rfl _) (λj c=> .inl (c▸d));refine⟨sb h.dI,ae h.dI 5,(zz r S.fuse _ (bK a.dI) (ae a.dI 2) a.ok.fuse.1).mono ?_⟩;rintro e w' ⟨rfl,rfl⟩;obtain⟨g,_⟩:=a.yC;have dX:aa (λk=>k=r) (w3.setCell ⟨r,5,none⟩ (.int .i64 (wrap64 (S.writes+1)))) (if 0<S.fuse then (w3.setCell ⟨r,5,none⟩ (.int .i64 (wrap64 (S.writes+1)))).setCell ⟨r,2,none⟩ (.int .i64 (wrap64 (S.fuse-1))) else (w3.setCell ⟨r,5,none⟩ (.int .i64 (wrap64 (S.writes+1))))):=by
  split
  .exact aa.setCell (F:=λk=>k=r) _ (p:=(aD r 2)) rfl _
  .exact aa.refl _ _
 have XQ:(if 0<S.fuse then (w3.setCell ⟨r,5,none⟩ (.int .i64 (wrap64 (S.writes+1)))).setCell ⟨r,2,none⟩ (.int .i64 (wrap64 (S.fuse-1))) else (w3.setCell ⟨r,5,none⟩ (.int .i64 (wrap64 (S.writes+1))))).heap.size=w3.heap.size:=by split <;> simp [World.setCell]
 refine⟨rfl,⟨gl,cl,ls,f,xs,cy.mono g (Ca (by rw [XQ];exact bS _)) (λk Bj=>?_)⟩,dW.trans dX (λj c=> .inl (c▸d))⟩;rw [XQ];rcases Bj with b|b
 .exact h.lt k (.inl b)
 .rw [XQ] at b;exact b.2
set_option maxRecDepth 100000 in
def NO {r:Nat} (hd:aC w F r s S) (k:Nat) (p:k<s) (m:S.fuse≠0) (aU:S.puts.length+1<=4000000000000)
    (x:Addr) (c:Nat) (l:List Int) (fS:Src w (some x) 512 l):
  Calls prog 54 #[pQ r,iV (k:Int), .slice (some x) 512 c] w λe w'=>e= .returned (iV 0)/\aC w' (more F w w') r s ((S.put k l).wrote.gq)/\aa F w w':=by
 obtain⟨K,E,P,Q,xs,h⟩:=hd;obtain⟨u,rH,gB,dC,eu⟩:=info_parts Mm;obtain⟨a,ca,rfl,_⟩:=h.form;have z:=aM h.dI;have A:=bG h.dI;have C:=bK h.dI;have L:(S.fuse == 0)=false:=by simp [m]
 have xM:¬(k:Int)<0:=by omega
 have ff:¬(s:Int)<=(k:Int):=by omega
 have rF:=h.lt r h.fr;have H:=yh h;have db:∀wx:World,wx.heap[r]? =w.heap[r]?->wx.cell? (aD r 1)=some (.slice a S.puts.length ca):=λwx e=>bG (e.trans H.o.dI);have p9:=yh db;go_in;go_wp2_with fail;have Mo:Calls prog 91 #[.slice (some x) 512 c] w.drew λe w'=>∃v,e= .returned v/\TwR w l v w':=
    (lP (some x) 512 c l w.drew (by omega) (yh fS).out).mono (by rintro e w' ⟨g,rfl,i,j,b⟩;exact⟨_,rfl,g,rfl,i,j,⟨b.os,b.tape,b.output,b.size,b.block⟩⟩)
 go_region_law
  (first
   |(refine vo (by rfl) 91 #[.slice (some x) 512 c] (by simp [go_sem]) (TwR w l) (yh Mo).out ?_;rintro _ w1 ⟨g,rfl,n,q,ar⟩;have mj:w1.heap[r]? =w.heap[r]? :=ar.block r rF;have M:=p9.o w1 mj;have N:=λo=>p9.o (w1.alloc o) ((Below.heap_alloc w1 o r (i5 rF ar.size)).trans mj))
   |(refine step_append_lies _ (by rfl) _ _ _ (by rfl) 0 117 u _ 2 32 underlying99 rH gB dC eu rfl (by omega) (.slice a S.puts.length ca) S.puts.length xs (by rfl) (aF H.o.di (λg e=>(Below.heap_alloc w1 _ _ (i5 (H.o.lt g (H.o.Pq g e)) ar.size)).trans (ar.block g (H.o.lt g (H.o.Pq g e)))))
       (aD w1.heap.size 0) 1 1 [iV (k:Int), .slice (some (aD g 0)) 512 512] (by rfl) (by rfl) (World.news_of_block (cs:= #[iV (k:Int), .slice (some (aD g 0)) 512 512]) (t:=117) (fr:=(0,0)) (heap_alloc_new w1 _)) (by simp [Value.oneCell']) (by omega) (by unfold maxLen;omega) (by omega) (dV _) (w1.heap.size+1) (by simp) ?_;intro J cz y fN j6 uW tz;obtain⟨fy,d,aZ⟩:=H.o.wrote p fS.1 ar n q fN j6 uW;have O:=p9.o y fy;have G:=ae (fy.trans H.o.dI) 1))
 all_goals
  obtain⟨D,I,f⟩:=Kd H.o.fr d aZ;go_wp2_with (go_at_call 112;refine f.mono ?_;rintro e w5 ⟨rfl,jG,dX⟩);go_ret;exact⟨rfl,jG,dX⟩
section
def qd:(prog.info? 166).map (λi=>(i.zero,i.size,i.bytes))=some (some (.agg #[iV 0, .slice none 0 0]),2,32):=by kernel_rfl
def Ro (w:World) (a:Option Addr) (n c b c':Nat):(binOp .eql 22 (.slice a n c) (.slice none b c')).run prog w= .ok (.bool a.isNone) w:=Lib.run_eql_slice_nil w _ _ a n c b c' underlying22
structure PL (w:World) (X:Nat->Prop) (v:Value) (ps:List (Nat×List Int)) (xs:List Value):Prop where
 own:w.ownsRow 0 166 2 v ps.length xs
 row:∀g,v.ownBlock=some g->X g
 put:∀i (hi:i<ps.length),∃g c,xs[2*i]? =some (iV ((ps[i].1:Nat):Int))/\xs[2*i+1]? =some (.slice (some (aD g 0)) 512 c)/\X g/\ay w 5 g c (bs ps[i].2)
 len:∀q∈ps,q.2.length=512/\Bytes q.2
def Pl (w:World) (X:Nat->Prop) (v:Value) (ps:List (Nat×List Int)):Prop:=∃xs,PL w X v ps xs
def qf {B:Nat} {m:Nat} {v:Value} {xs:List Value} (h:W.ownsRow B e m v n xs) (a:v.ownBlock=some g):g<W.heap.size:=by
 obtain⟨_,⟨rfl,_⟩|⟨d,b,cur,rfl,_,c,_⟩⟩:=h
 .simp [Value.ownBlock] at a
 .simp [Value.ownBlock] at a;subst a;exact(lR.1 c).1
section
variable {w w':World} {X Y G:Nat->Prop} {v:Value} {ps:List (Nat×List Int)} {xs:List Value}
def PL.form (h:PL w X v ps xs):
  ∃a c,v= .slice a ps.length c/\(0<ps.length->∃b,a=some (aD b 0)/\∀i (f:i<ps.length),∃g d,w.cell? ⟨b,i*2,none⟩=some (iV ((ps[i].1:Nat):Int))/\w.cell? ⟨b,i*2+1,none⟩=some (.slice (some (aD g 0)) 512 d)/\X g/\ay w 5 g d (bs ps[i].2)):=by
 have j:=h.own;obtain⟨_,⟨e,r⟩|⟨b,m,cur,e,_⟩⟩:=h.own
 .exact⟨none,0,by rw [e,r],λh0=>by omega⟩
 .refine⟨_,_,e,λ_=>⟨b,rfl,λi f=>?_⟩⟩;obtain⟨g,d,n,o,p,q⟩:=h.put i f;have k:=j.cells (g:=b) (by rw [e];rfl) _ _ n;have l:=j.cells (g:=b) (by rw [e];rfl) _ _ o;rw [aN,Nat.zero_add] at k l;exact⟨g,d,by rw [Nat.mul_comm];exact k,by rw [Nat.mul_comm];exact l,p,q⟩
def PL.aw (h:PL w X v ps xs) (d:aa G w w') (l:∀g,v.ownBlock=some g->¬G g) (hd:∀g c ys,X g->ay w 5 g c ys->¬G g):PL w' X v ps xs:=by
 refine⟨aF h.own (λg e=>d.block g (qf h.own e) (l g e)),h.row,λi k=>?_,h.len⟩;obtain⟨g,c,f,j,b,a⟩:=h.put i k;exact⟨g,c,f,j,b,a.agree (d.block g a.lt (hd g _ _ b a))⟩
def PL.mono (h:PL w X v ps xs) (a:∀g,X g->Y g):PL w Y v ps xs:=
   ⟨h.own,λg e=>a _ (h.row g e),λi k=>by obtain⟨g,c,b,d,f,j⟩:=h.put i k;exact⟨g,c,b,d,a _ f,j⟩,h.len⟩
def Pl.aw (h:Pl w X v ps) (a:aa G w w') (b:∀g,v.ownBlock=some g->¬G g) (hd:∀g c ys,X g->ay w 5 g c ys->¬G g):Pl w' X v ps:=by
 obtain⟨xs,h⟩:=h;exact⟨xs,h.aw a b hd⟩
def Pl.later (h:Pl w X v ps) (a:bW w w'):Pl w' X v ps:=h.aw (aa.ah (λ_=>False) a) (λ_ _ h=>h) (λ_ _ _ _ _ h=>h)
def Pl.mono (h:Pl w X v ps) (a:∀g,X g->Y g):Pl w Y v ps:=by obtain⟨xs,h⟩:=h;exact⟨xs,h.mono a⟩
def Pl.row (h:Pl w X v ps):∀g,v.ownBlock=some g->X g:=by obtain⟨xs,h⟩:=h;exact h.row
def Pl.rlt (h:Pl w X v ps):∀g,v.ownBlock=some g->g<w.heap.size:=by obtain⟨xs,h⟩:=h;exact λg e=>qf h.own e
def Pl.len (h:Pl w X v ps):∀q∈ps,q.2.length=512/\Bytes q.2:=by obtain⟨xs,h⟩:=h;exact h.len
def Pl.form (h:Pl w X v ps):
  ∃a c,v= .slice a ps.length c/\(0<ps.length->∃gp,a=some (aD gp 0)/\∀i (hi:i<ps.length),∃g cg,w.cell? ⟨gp,i*2,none⟩=some (iV ((ps[i].1:Nat):Int))/\w.cell? ⟨gp,i*2+1,none⟩=some (.slice (some (aD g 0)) 512 cg)/\X g/\ay w 5 g cg (bs ps[i].2)):=by obtain⟨xs,h⟩:=h;exact h.form
def Pl.nil (w:World) (X:Nat->Prop):Pl w X (.slice none 0 0) []:=⟨[],⟨rfl, .inl ⟨rfl,rfl⟩⟩,λg e=>by simp [Value.ownBlock] at e,λi a=>by simp at a,λq b=>by cases b⟩
def Pl.ne (h:Pl w X v ps) (d:v.ownBlock=some g) {a:Nat×Nat} (c:w.heap[q]? =some (.cells cur e' a)) (b:e'≠166):g≠q:=by
 obtain⟨xs,h⟩:=h;exact dS h.own d c b
def Pl.other (h:Pl w X v ps) {d:Nat×Nat} (a:w.heap[k]? =some (.cells cur e d)) (f:e≠166) (g:e≠5) (i:aa (λj=>j=k) w w'):Pl w' X v ps:=
 h.aw i (λb m e=>h.ne m a f e) (λb n c _ l e=>l.ne a g e)
structure PV (w:World) (X:Nat->Prop) (v:Value) (ps:List (Nat×List Int)):Prop where
 form:∃a c,v= .slice a ps.length c/\(0<ps.length->∃gp o,a=some (aD gp o)/\X gp/\∀i (hi:i<ps.length),∃g cg,w.cell? ⟨gp,o+i*2,none⟩=some (iV ((ps[i].1:Nat):Int))/\w.cell? ⟨gp,o+i*2+1,none⟩=some (.slice (some (aD g 0)) 512 cg)/\X g/\ay w 5 g cg (bs ps[i].2))
 len:∀q∈ps,q.2.length=512/\Bytes q.2
def Pl.pv (h:Pl w X v ps):PV w X v ps:=by
 obtain⟨a,c,e,f⟩:=h.form;refine⟨⟨a,c,e,λh0=>?_⟩,h.len⟩;obtain⟨b,d,g⟩:=f h0;refine⟨b,0,d,h.row b (by rw [e,d];rfl),λi bq=>?_⟩;rw [Nat.zero_add];exact g i bq
def dw (b:aa G w w') (c:¬G g) (a:w.cell? (aD g j)=some u):w'.cell? (aD g j)=some u:=by
 have bq:g<w.heap.size:=by
  apply Decidable.byContradiction;intro d;simp only [World.cell?] at a;rw [Array.getElem?_eq_none (by omega)] at a;cases a
 have:=b.block g bq c;simp only [World.cell?] at a⊢;rw [this];exact a
def PV.aw (h:PV w X v ps) (d:aa G w w') (b:∀g,X g->¬G g):PV w' X v ps:=by
 obtain⟨⟨a,c,t,q⟩,s⟩:=h;refine⟨⟨a,c,t,λh0=>?_⟩,s⟩;obtain⟨l,o,p,e,r⟩:=q h0;refine⟨l,o,p,e,λi bq=>?_⟩;obtain⟨g,k,m,n,f,j⟩:=r i bq;exact⟨g,k,dw d (b _ e) m,dw d (b _ e) n,f,j.agree (d.block g j.lt (b _ f))⟩
def PV.later (h:PV w X v ps) (a:bW w w'):PV w' X v ps:=h.aw (aa.ah (λ_=>False) a) (λ_ _ h=>h)
def ZF (w:World) (X:Nat->Prop) (o:Option (List Int)) (e:Ending):Prop:=
   (o=none/\e= .returned (.slice none 0 0))\/∃l g c,o=some l/\e= .returned (.slice (some (aD g 0)) 512 c)/\X g/\ay w 5 g c (bs l)
def qW (h:PV w X v ps) (k:Nat) (aU:ps.length<=5000000000000):
  Calls prog 132 #[v,iV (k:Int)] w λe w'=>ZF w X (jB ps k) e/\w'=w:=by
 obtain⟨a,c,rfl,sH⟩:=h.form;go_in;go_wp2;go_loopw [5] (λi wr=>∃j:Nat,j<=ps.length/\i=iV ((j:Int)-1)/\wr=w/\∀i (d:i<ps.length),j<=i->ps[i].1≠k) (λi _=>(intOf i+1).toNat);case atStart=>exact⟨ps.length,bS _,rfl,rfl,λi d h=>by omega⟩
 case round=>
  obtain⟨j,m,rfl,rfl,i9⟩:=hrel;have nX:=yh i9;cases j with
  |zero=>
   have l:=yh (uN (ps:=ps) (b:=k) (λq s=>by
    obtain⟨j,m,rfl⟩:=List.mem_iff_getElem.1 s;exact nX.o j m (by omega)))
   go_wp2;go_ret;exact⟨.inl ⟨l.out,rfl⟩,rfl⟩
  |succ j=>
   obtain⟨x,o,rfl,_,r⟩:=(yh sH).out (by omega);obtain⟨g,n,u,y,p,t⟩:=r j (by omega);by_cases f:ps[j].1=k
   .have l:=yh (Ue (ps:=ps) (by omega) f (λi d h=>nX.o i d (by omega)));rw [f] at u;go_wp2;go_ret;exact⟨.inr ⟨_,g,n,l.out,rfl,p,(yh t).out⟩,rfl⟩
   .have dM:(((ps[j].1:Nat):Int) == (k:Int))=false:=(by rw [Bool.eq_false_iff,ne_eq,beq_iff_eq];omega);have Kc:∀i (d:i<ps.length),j<=i->ps[i].1≠k:=λi d h=>by
     by_cases e:i=j
     .subst e;exact f
     .exact nX.o i d (by omega)
    go_wp2;go_roundw;case rel=>exact⟨j,by omega,by go_num,trivial,(yh Kc).out⟩
    case measure=>simp [intOf]
end
end
def ay.stored (h:ay w e g c xs) (k:Nat) (v:Value):ay (w.setCell ⟨g,k,none⟩ v) e g c (xs.set k v):=by
 obtain⟨cur,a,b,f,d⟩:=h;refine⟨_,heap_setCell_same _ _ _ _ _ _ a,by simpa using b,?_,d⟩;rw [List.length_set,Array.toList_setIfInBounds,List.take_set,f]
def cy.stored {r:Nat} {o:Value} (h:cy w F r s S gl cl ls o xs) (A:k<s) (t:F g) (y:ay w 5 g c (bs l)) {im:List Int} (x:im.length=s*512)
    (z:∀j,j<s->bL im j=if j=k then l else bL S.im j):
  cy (w.setCell ⟨gl,k,none⟩ (.slice (some ⟨g,0,none⟩) 512 c)) F r s {S with im:=im} gl cl (ls.set k (.slice (some (aD g 0)) 512 c)) o xs/\aa (λb=>b=gl) w (w.setCell ⟨gl,k,none⟩ (.slice (some ⟨g,0,none⟩) 512 c)):=by
 have LR:aa (λb=>b=gl) w (w.setCell ⟨gl,k,none⟩ (.slice (some ⟨g,0,none⟩) 512 c)):=aa.setCell (F:=λb=>b=gl) w (p:=(aD gl k)) rfl _;obtain⟨cur,lx,_⟩:=h.last;refine⟨⟨h.fr,h.fl,λb u=>i5 (h.lt b u) LR.size,(LR.block r (h.lt r h.fr) (λe=>h.last.ne h.dI (by decide) e.symm)).trans h.dI,h.last.stored k _,by rw [List.length_set];exact h.Ka,λj n=>?_,
  aF h.di (λb e=>LR.block b (h.lt b (h.Pq b e)) (dS h.di e lx (by decide))),h.Pq,λi v=>?_,⟨x,h.ok.lo,h.ok.hi,h.ok.puts,h.ok.fuse⟩⟩,LR⟩
 .simp only [z j n];by_cases e:j=k
  .subst e;rw [aG rfl];exact⟨g,c,by rw [List.getElem?_set_self (by rw [h.Ka];exact n)],t,y.other LR lx (by decide)⟩
  .rw [aB e];obtain⟨m,c',a,d,f⟩:=h.zx j n;exact⟨m,c',by rw [List.getElem?_set_ne (by omega)];exact a,d,f.other LR lx (by decide)⟩
 .obtain⟨m,c',a,d,f,q⟩:=h.puts i v;exact⟨m,c',a,d,f,q.other LR lx (by decide)⟩
def zB (S:DS) (s i:Nat):List Int:=pC s (DS.now {S with puts:=S.puts.take i})
def xX (h:S.Ok s) (i:Nat):DS.Ok {S with puts:=S.puts.take i} s:=⟨h.len,h.lo,h.hi,λq a=>h.puts q (List.mem_of_mem_take a),h.fuse⟩
def Gr (h:S.Ok s) (i:Nat):(zB S s i).length=s*512:=pD s _ (bu (xX h i))
def NP (h:S.Ok s):zB S s 0=S.im:=by
 refine Dt s (Gr h 0) h.len (λk a=>?_);unfold zB;rw [nB s _ (bu (xX h 0)) k a];exact tA _ _ (by simp [au])
def Rq:zB S s S.puts.length=pC s S.now:=by
 unfold zB;rw [List.take_length]
def NQ (h:S.Ok s) (c:i<S.puts.length):∀j,j<s->bL (zB S s (i+1)) j=if j=S.puts[i].1 then S.puts[i].2 else bL (zB S s i) j:=λj a=>by
 unfold zB;rw [nB s _ (bu (xX h (i+1))) j a,nB s _ (bu (xX h i)) j a];have b:S.puts.take (i+1)=S.puts.take i ++ [S.puts[i]]:=by rw [List.take_add_one,List.getElem?_eq_getElem c];rfl
 by_cases e:j=S.puts[i].1
 .rw [aG e];unfold DS.now DS.gL;simp only [b];rw [fo];simp [au,e,List.getD]
 .rw [aB e];have d:au (S.puts.take (i+1)) j=au (S.puts.take i) j:=by
   rw [b,fo,kR (puts:= [S.puts[i]]) (by simp;omega),List.append_nil]
  unfold DS.now DS.gL;simp only [d]
def Gs {r:Nat} (h:aC w F r s S) (d:S.fuse=0):
  Calls prog 56 #[pQ r] w λe w'=>e= .returned (iV 3)/\w'=w:=by
 obtain⟨c,b,f,g,xs,h⟩:=h;have a:=bK h.dI;go_in;go_wp2;go_ret;exact⟨rfl,rfl⟩
def cy.dropped {r:Nat} {l:Value} (h:cy w F r s S gl cl ls l xs):
  cy (w.setCell ⟨r,1,none⟩ (.slice none 0 0)) F r s {S with puts:= []} gl cl ls (.slice none 0 0) []/\aa (λk=>k=r) w (w.setCell ⟨r,1,none⟩ (.slice none 0 0)):=by
 have a:=(h.set 1 (.slice none 0 0)).2;refine⟨⟨h.fr,h.fl,λb g=>i5 (h.lt b g) a.size,(h.set 1 _).1.trans (by simp [bJ]),h.last.other a h.dI (by decide),h.Ka,λj i=>?_,World.ownsRow_nil _ _ _ _,by simp [Value.ownBlock],by simp,⟨h.ok.len,h.ok.lo,h.ok.hi,by simp,h.ok.fuse⟩⟩,a⟩;obtain⟨f,c',c,d,e⟩:=h.zx j i;exact⟨f,c',c,d,e.other a h.dI (by decide)⟩
def Ke {wr:World} {r:Nat} {f:Value} (h:cy wr F r s {S with im:=zB S s S.puts.length} gl cl ls f xs) (g:aa F w wr):
  wr.cell? (aD r 1)=some f/\wr.frozen? (aD r 1)=false/\(wr.setCell ⟨r,1,none⟩ (.slice none 0 0)).cell? (aD r 6)=some (iV S.flushes)/\(wr.setCell ⟨r,1,none⟩ (.slice none 0 0)).frozen? (aD r 6)=false/\
  Calls prog 112 #[pQ r] ((wr.setCell ⟨r,1,none⟩ (.slice none 0 0)).setCell ⟨r,6,none⟩ (.int .i64 (wrap64 (S.flushes+1)))) λe w'=>e= .returned (.tuple #[])/\aC w' F r s ((S.flush s).gq)/\aa F w w':=by
 rw [Rq] at h;obtain⟨a,ff⟩:=h.dropped;have c:cy ((wr.setCell ⟨r,1,none⟩ (.slice none 0 0)).setCell ⟨r,6,none⟩ (.int .i64 (wrap64 (S.flushes+1)))) F r s (S.flush s) gl cl ls (.slice none 0 0) []:=
  a.nx (a.set 6 _).2 ((a.set 6 _).1.trans (by simp [bJ,DS.flush])) rfl rfl a.ok.fuse
 refine⟨bG h.dI,ae h.dI 1,wZ a.dI,ae a.dI 6,(zz r S.fuse _ (bK c.dI) (ae c.dI 2) c.ok.fuse.1).mono ?_⟩;rintro e w' ⟨rfl,rfl⟩;have d:=c.yC;exact⟨rfl,⟨gl,cl,ls,_,_,d.1⟩,((g.trans ff (λj b=> .inl (b▸h.fr))).trans (a.set 6 _).2 (λj b=> .inl (b▸h.fr))).trans d.2 (λj b=> .inl b)⟩
set_option maxRecDepth 100000 in
def NR {r:Nat} (hd:aC w F r s S) (J:S.fuse≠0) (aU:S.puts.length+1<=4000000000000):
  Calls prog 56 #[pQ r] w λe w'=>e= .returned (iV 0)/\aC w' F r s ((S.flush s).gq)/\aa F w w':=by
 obtain⟨c,p,k,C,xs,h⟩:=hd;have U:=bK h.dI;have l:(S.fuse == 0)=false:=by simp [J]
 have du:=h.ok;have h0:cy w F r s {S with im:=zB S s 0} c p k C xs:=by rw [NP h.ok];exact h
 go_in;go_wp2;go_loopw [3] (λi wr=>∃j:Nat,j<=S.puts.length/\i=iV (j:Int)/\∃k,cy wr F r s {S with im:=zB S s j} c p k C xs/\aa F w wr) (λi _=>S.puts.length-(intOf i).toNat);case atStart=>exact⟨0,dV _,rfl,k,h0,aa.refl _ _⟩
 case round=>
  obtain⟨j,hj,rfl,k,hd,y⟩:=hrel;obtain⟨a,ca,xD,q⟩:=hd.form;have x:=aM hd.dI;have n:=bG hd.dI;rw [xD] at n;by_cases bq:j<S.puts.length
  .have cC:(j:Int)<(S.puts.length:Int):=(by omega);obtain⟨d,rfl,K⟩:=q (by simp only;omega);obtain⟨g,D,z,A,I,L⟩:=K j bq;have ew:=(du.puts S.puts[j] (List.getElem_mem bq)).1;have aib:((S.puts[j].1:Nat):Int)<(s:Int):=(by omega);obtain⟨R,T⟩:=hd.stored ew I L (Gr du (j+1)) (NQ du bq);have fl:=hd.last.frozen S.puts[j].1;obtain⟨gx,W,jI,_⟩:=hd.zx _ ew;have E:=hd.last.cell jI;have f:=aH R (y.trans T (λb l=> .inl (l▸hd.fl)));have rF:r≠c:=λe=>hd.last.ne hd.dI (by decide) e.symm;have py:d≠c:=by
    obtain⟨cur,lx,_⟩:=hd.last;exact dS hd.di (by rw [xD];rfl) lx (by decide)
   generalize S.puts[j].1=u at*;have m:∀b o v,b≠c->(wr.setCell ⟨c,u,none⟩ v).cell? (aD b o)=wr.cell? (aD b o):=λb o v l=>World.cell?_of_block (w:=wr) (a:=(aD b o)) (Below.heap_setCell wr ⟨c,u,none⟩ v b l);have N:=λv=>(m r 0 v rF).trans x;have O:=λv=>(m r 1 v rF).trans n;have P:=λv=>(m d (j*2) v py).trans z;have Q:=λv=>(m d (j*2+1) v py).trans A;have M:=(aH N (aH O (aH P Q)));go_wp2_with fail;go_region_held3 (λw'=>w'.cell? (aD r 0)=some (.slice (some (aD c 0)) s p)/\w'.cell? (aD r 1)=some (.slice (some (aD d 0)) S.puts.length ca)/\w'.cell? ⟨d,j*2,none⟩=some (iV (u:Int))/\w'.cell? ⟨d,j*2+1,none⟩=some (.slice (some (aD g 0)) 512 D)) (first|exact⟨x,n,z,A⟩|exact⟨M.1 _,M.2.1 _,M.2.2.1 _,M.2.2.2 _⟩) (fail);all_goals
    go_wp2;go_roundw;case rel=>exact⟨j+1,by omega,by go_num,_,f.1.agree (bS _) (λ_ _=>rfl),⟨f.2.os,f.2.tape,f.2.output,f.2.size,f.2.block⟩⟩
    case measure=>simp [intOf];omega
  .have cC:¬(j:Int)<(S.puts.length:Int):=(by omega);have H:j=S.puts.length:=(by omega);rw [H] at hd;obtain⟨G,X,Y,Z,t⟩:=Ke hd y;rw [xD] at G;go_wp2_with (go_at_call 112;refine t.mono ?_;rintro e w5 ⟨rfl,jG,dX⟩);go_ret;exact⟨rfl,jG,dX⟩
end Go.Proofs.YtcpdggdfihjhoabGreat
