import Derived.Test.YtenlkgicpllbhaaGreatW01
import Derived.Test.YtenlkgicpllbhaaGreatW07
import Derived.RangeFuncNested
import Derived.RangeFuncBound
import Derived.RangeFuncCalls
import Derived.RangeFuncLeaves
import Derived.Shelf.Abstract
import Derived.Shelf.RegionOpen
import Derived.OwnWalkIn
import Derived.TacticsInMore
import Derived.LoopNIn
import Derived.LoopIn
import Derived.Deep.AppendLies
import Derived.OrdersHeld
import Derived.Deep.RegionHeld
import Derived.Scope
import Derived.WalkMore
set_option maxRecDepth 20000
set_option maxHeartbeats 8000000
set_option linter.all false
namespace Go.Proofs.YtenlkgicpllbhaaGreat
open Go.Proofs.Tryz
open Go.RowKit Go.Maps
variable {cur':Array Value} {S:DS} {L:LG} {rs:List (List Int)} {d:List Int} {vs xs:List Value} {B' B0 E c cap QU f g g' hd i k l n n₀ p s:Nat} {R:Nat->PC} {F X X':Nat->Prop} {e t':TypeId} {v vR vr:Value} {A C W W' W'' w w' w2:World}
section
open Go.RowKit Go.Shelf
attribute [local go_sem] Oper.semAt_some
def Ge (n₀ b c:Nat) (W W':World):Prop:=Below n₀ W W'/\W'.heap[b]? =W.heap[b]?/\W'.heap[c]? =W.heap[c]?
theorem Ge.t {b:Nat} {B:World} (h:Ge n₀ b c A B) (k:Ge n₀ b c B C):Ge n₀ b c A C:=⟨h.1.trans k.1,k.2.1.trans h.2.1,k.2.2.trans h.2.2⟩
theorem Ge.b {b:Nat} (g:n₀<=w.heap.size) (i:b<w.heap.size) (j:c<w.heap.size) (W:World) (l:Nat) (o a:Obj) (f:w.heap.size<=l) (h:W.heap[l]? =some o) (d:o.isCells=false) (e:o.isWalk=false):Ge n₀ b c W (W.putObj l a):=
   ⟨belowK_b g W l o a f h d e,World.putObj_heap_other (by omega),World.putObj_heap_other (by omega)⟩
theorem Ge.refl (a b c:Nat) (W:World):Ge a b c W W:=⟨bi _ _,rfl,rfl⟩
structure Gf (w:World) (n₀ g n:Nat) (R:Nat->PC) (A:Nat->Option Addr) (C:Nat->Nat):Prop where
 lt:g<n₀
 p:∀i,i<n->w.rangeAt g (i*5) (eI ((R i).e:Int) ((R i).p:Int) ((R i).i:Int) ((R i).c:Int) (A i) (R i).d.length (C i)).toList
theorem Gf.below {A:Nat->Option Addr} {C:Nat->Nat} (h:Gf w n₀ g n R A C) (a:Below n₀ w w'):Gf w' n₀ g n R A C:=
   ⟨h.lt,λi b j v c=>(a.cell (p:=⟨g,i*5+j,none⟩) h.lt).trans (h.p i b j v c)⟩
theorem TQ (g n T:Nat) (w:World):
  Calls prog 194 #[.slice (some (aD g 0)) n n,iV (T:Int)] w λe w'=>e= .returned (.func (.func 227) #[] #[pQ w.heap.size, .pointer (some ⟨w.heap.size+1,0,none⟩)])/\w'=(w.alloc (.cells #[.slice (some ⟨g,0,none⟩) n n] 186)).alloc (.cells #[.int .i64 (T:Int)] 3):=by
 go_in;go_wp2;go_ret;exact⟨rfl,rfl⟩
def Vh (n T:Nat) (R:Nat->PC) (A:Nat->Option Addr) (C:Nat->Nat) (x:Fin n):Array Value:=
   #[iV ((T:Int)+(x.1:Int)),kW ((R ((T+x.1)%n)).e:Int) ((R ((T+x.1)%n)).p:Int) ((R ((T+x.1)%n)).i:Int) ((R ((T+x.1)%n)).c:Int) (A ((T+x.1)%n)) (R ((T+x.1)%n)).d.length (C ((T+x.1)%n))]
def za {n:Nat} (xs:List (Fin n)) (k:Nat):Prop:=xs.map Fin.val=List.range k
theorem za.nil:za ([]:List (Fin n)) 0:=rfl
theorem za.length {xs:List (Fin n)} (h:za xs k):xs.length=k:=by have:=congrArg List.length h;simpa using this
theorem za.snoc {xs:List (Fin n)} (h:za xs k) (a:k<n):za (xs ++ [⟨k,a⟩]) (k+1):=by
 unfold za at*;rw [List.map_append,h,List.range_succ];rfl
theorem zb {F:Fence} {P:Program} {b:Array Value} {a body:Code} {A B:World->Prop}
    (h:RoundIn F n P l f b a body w λe W'=>(e= .returned (.bool true)/\A W')\/(e= .returned (.bool false)/\B W')):
  RoundIn F n P l f b a body w λe W'=>∃r,e= .returned (.bool r)/\(r=true->A W')/\(r=false->B W'):=
 h.mono λe W' h=>by
  rcases h with ⟨rfl,h⟩|⟨rfl,h⟩
  .exact⟨true,rfl,λ_=>h,λe=>by cases e⟩
  .exact⟨false,rfl,λe=>(by cases e),λ_=>h⟩
set_option maxRecDepth 100000 in
theorem TR (m:Nat) (S:1<=m) (l d c q g n T:Nat) (R:Nat->PC) (A:Nat->Option Addr) (C:Nat->Nat) (w:1<=n) (mg:n<=256) (P:T<=1073741824) (J s:List (Fin n)->World->Prop)
    (F:∀a (x:Fin n) W,J a W->a.length<n->YieldAt Fence.wide (m-1) prog l (Vh n T R A C x) W λe W'=>
     (e= .returned (.bool true)/\J (a ++ [x]) W'/\Ge q d c W W')\/(e= .returned (.bool false)/\s (a ++ [x]) W'))
    (W:World) (Ua:W.heap[d]? =some (.cells #[.slice (some ⟨g,0,none⟩) n n] 186 (0,0))) (j:W.heap[c]? =some (.cells #[.int .i64 (T:Int)] 3 (0,0))) (E:Gf W q g n R A C) (D:AbidesFrom W.heap.size J) (h0:J [] W):
  CallsIn Fence.wide m prog 227 #[.func (.yield l) #[] #[],pQ d,pQ c] W λe W'=>(∃v,e= .returned v)/\
     ((∃ys,za ys n/\J ys W')\/(∃a,(∃k,k<n/\za a (k+1))/\s a W')):=by
 have xZ:=aL Ua;refine callsIn_of_wp func227 rfl trivial ?_ rfl;simp only [ntmps227,List.size_toArray,List.length_cons,List.length_nil,Nat.reduceAdd,Nat.reduceSub,Array.replicate_succ,Array.replicate_zero,List.push_toArray,List.append_toArray,List.nil_append,List.cons_append]
 gi_wp2
 gi_loopw [8] (λi wr=>∃(k:Nat) (a:List (Fin n)),k<=n/\i=iV k/\za a k/\J a wr/\Ge q d c W wr)
    (λi _=>n-(intOf i).toNat)
 case atStart=>exact⟨0, [],dU _,rfl,za.nil,h0,Ge.refl _ _ _ _⟩
 case round=>
  obtain⟨k,a,Q,rfl,pK,b,fP⟩:=hrel;have u:=pK.length;by_cases bm:k<n
  .have ed:=aL (fP.2.1.trans Ua);have oY:=aL (fP.2.2.trans j);obtain⟨O,y,f,body,H,o⟩:=F a ⟨k,bm⟩ wr.drew (D a wr wr.drew none b ⟨rfl,rfl,rfl,bP _,λ_ _ _=>rfl⟩ (λr e=>by cases e)) (by omega);have Zb:prog.follows .mixedOrders=true:=(by kernel_rfl);have cw:(k:Int)<(n:Int):=(by omega);have mI:=(E.below fP.1).p ((T+k)%n) (Nat.mod_lt _ w);have G:=Nat.mod_lt (T+k) w;have U:((T:Int)+(k:Int)).tmod (n:Int)=(((T+k)%n:Nat):Int):=(by rw [Int.tmod_eq_emod_of_nonneg (by omega),<-Int.natCast_add,<-Int.natCast_emod]);have l8:((T:Int)+(k:Int))%(n:Int)=(((T+k)%n:Nat):Int):=by rw [<-Int.natCast_add,<-Int.natCast_emod]
   dsimp only [Vh] at H
   generalize (T+k)%n=x at*;obtain⟨z,K,L,M,N⟩:=ey (mI 0 _ rfl) (mI 1 _ rfl) (mI 2 _ rfl) (mI 3 _ rfl) (mI 4 _ rfl);rw [Nat.add_zero] at z;have aoP:(x:Int)<(n:Int):=(by omega);have rl:(0:Int)<=(x:Int):=by omega
   gi_wp2
   gi_region_with_o ((refine(zb o).mono ?_;rintro e I ⟨r,rfl,lG,fb⟩;have Cu:=lG;have zc:=fb;clear lG fb))
   all_goals
    cases r
    .gi_wp2
     refine bodyPost_ret (results_none rfl _ _ _) rfl ?_;exact⟨⟨_,rfl⟩, .inr ⟨_,⟨k,bm,pK.snoc bm⟩,zc (by simp)⟩⟩
    .gi_wp2
     go_roundw;case rel=>exact⟨k+1,_,by omega,by go_num,pK.snoc bm,(Cu (by simp)).1,fP.t (Ge.t (B:=wr.drew) ⟨ai (bi _ _),rfl,rfl⟩ (Cu (by simp)).2)⟩
     case measure=>simp [intOf];omega
  .obtain rfl:k=n:=by omega
   gi_wp2
   go_end0
   exact⟨⟨_,rfl⟩, .inl ⟨a,pK,b⟩⟩
theorem LA (m:Nat) (r:1<=m) (c b d g n T:Nat) (R:Nat->PC) (A:Nat->Option Addr) (C:Nat->Nat) (s:1<=n) (mg:n<=256) (p:T<=1073741824) (w:World) (kT:d<=w.heap.size)
    (Ua:w.heap[c]? =some (.cells #[.slice (some ⟨g,0,none⟩) n n] 186 (0,0))) (a:w.heap[b]? =some (.cells #[.int .i64 (T:Int)] 3 (0,0))) (o:Gf w d g n R A C):
  SeqStopsK Fence.wide m prog 227 #[pQ c,pQ b] (Vh n T R A C) (Ge d c b) (λt=>za t n) (λf=>∃k,k<n/\za f (k+1)) n w:=
 λl J i W e j _ q h0=>TR m r l c b d g n T R A C s mg p J i q W ((e.block _ (aw Ua)).trans Ua) ((e.block _ (aw a)).trans a) (o.below (e.mono kT)) j h0
end
def dQ (W:World) (B:Nat) (v:Value) (rs:List (List Int)) (X:Nat->Prop):Prop:=
 ∃vs,W.ownsRow B 36 1 v rs.length vs/\∀i (hi:i<rs.length),∃g c,vs[i]? =some (.slice (some (aD g 0)) (rs[i]).length c)/\ay W 5 g c (bs rs[i])/\B<=g/\¬X g
theorem dQ.nil (W:World) (B:Nat) (X:Nat->Prop):dQ W B (.slice none 0 0) [] X:=⟨[],World.ownsRow_nil _ _ _ _,λi a=>by cases a⟩
def ko (W W':World):Prop:=∀(b:Nat) (cur:Array Value) (t:TypeId) (fz:Nat×Nat),W.heap[b]? =some (Obj.cells cur t fz)->W'.heap[b]? =some (Obj.cells cur t fz)
theorem bJ {B:Nat} (h:W.ownsRow B e 1 v n xs) (a:v.ownBlock=some g):∃cur,W.heap[g]? =some (.cells cur e (0,0)):=by
 obtain⟨_,⟨rfl,_⟩|⟨d,b,cur,rfl,_,c,_⟩⟩:=h
 .simp [Value.ownBlock] at a
 .simp [Value.ownBlock] at a;subst a;exact⟨cur,c⟩
theorem em {B:Nat} (h:W.ownsRow B e 1 v n xs) (d:∀g,v.ownBlock=some g->W'.heap[g]? =W.heap[g]?):W'.ownsRow B e 1 v n xs:=by
 obtain⟨b,h|⟨g,a,cur,rfl,f,sd,c⟩⟩:=h
 .exact⟨b, .inl h⟩
 .exact⟨b, .inr ⟨g,a,cur,rfl,f,(d g rfl).trans sd,c⟩⟩
theorem dQ.step {B:Nat} (h:dQ W B v rs X) (aY:∀g,v.ownBlock=some g->W'.heap[g]? =W.heap[g]?)
    (Vi:∀g cur,W.heap[g]? =some (.cells cur 5 (0,0))->¬X g->W'.heap[g]? =W.heap[g]?) (l:∀g,g<W.heap.size->X' g->X g):dQ W' B v rs X':=by
 obtain⟨n,f,j⟩:=h;refine⟨n,em f aY,λi m=>?_⟩;obtain⟨g,c,e,b,k,d⟩:=j i m;have bm:=b.lt;obtain⟨cur,a,oM⟩:=b;exact⟨g,c,e,⟨cur,(Vi g cur a d).trans a,oM⟩,k,λh=>d (l g bm h)⟩
theorem dQ.cells {B:Nat} (h:dQ W B v rs X) (d:ko W W'):dQ W' B v rs X:=by
 obtain⟨n,b,f⟩:=h;refine⟨n,em b (λg k=>?_),λi l=>?_⟩
 .obtain⟨cur,a⟩:=bJ b k;rw [d _ _ _ _ a,a]
 .obtain⟨g,c,e,⟨cur,a,oM⟩,j,m⟩:=f i l;exact⟨g,c,e,⟨cur,d _ _ _ _ a,oM⟩,j,m⟩
theorem Own.cells {B:Nat} {l:List Int} (h:Own W B v l) (b:ko W W'):Own W' B v l:=
 em h (λg c=>by
  obtain⟨cur,a⟩:=bJ h c;rw [b _ _ _ _ a,a])
structure jq (W:World) (B0 B E:Nat) (st:SS) (vR vr:Value):Prop where
 r:Boxed W B0 62 vR
 c:Boxed W (B0+1) 36 vr
 h:Boxed W (B0+2) 3 (iV (st.hd:Int))
 d:W.heap[B0+3]? =some (.cells #[.int .i64 (E:Int), .int .i64 (st.ps:Int), .int .i64 (st.j:Int), .int .i64 (st.c:Int)] 228 (0,0))
 rs:dQ W B vR st.rs (λk=>vr.ownBlock=some k)
 rc:Own W B vr st.rc
 lo:B0+6<=B
theorem jq.cells {B:Nat} {b:SS} (h:jq W B0 B E b vR vr) (a:ko W W'):jq W' B0 B E b vR vr:=
   ⟨a _ _ _ _ h.r,a _ _ _ _ h.c,a _ _ _ _ h.h,a _ _ _ _ h.d,h.rs.cells a,h.rc.cells a,h.lo⟩
theorem el (a:bW W W'):ko W W':=λb _ _ _ h=>(a.block b (aw h)).trans h
theorem i6 {row:Option Nat} (d:W.grownBy W' row) (f:∀r,row=some r->∃o:Obj,W.heap[r]? =some o/\o.isCells=false):ko W W':=λb cur t g h=>by
 refine(d.block b (aw h) (λe=>?_)).trans h;obtain⟨o,a,c⟩:=f b e.symm;rw [h] at a;cases a;cases c
theorem jn {B:Nat} (h:W.ownsRow B e 1 v n xs) (a:v.ownBlock=some g):B<=g:=by
 obtain⟨_,⟨rfl,_⟩|⟨c,b,cur,rfl,f,d,_⟩⟩:=h
 .simp [Value.ownBlock] at a
 .simp [Value.ownBlock] at a;omega
theorem tN {cur:Array Value} {t:TypeId} {c a:Nat×Nat} (h:W.heap[g]? =some (.cells cur t c)) (b:W.heap[g]? =some (.cells cur' t' a)) (d:t≠t'):False:=by
 rw [h] at b;cases b;exact d rfl
theorem jq.grow {B:Nat} {a:SS} (h:jq W B0 B E a vR vr)
    (j:w2.ownsRow B 5 1 (.slice (some (aD g 0)) (a.rc.length+d.length) cap) (a.rc.length+d.length) (bs a.rc ++ bs d)) (i:W.grownBy w2 vr.ownBlock) (ic:vr.ownBlock=some g\/g=W.heap.size):
  Boxed w2 B0 62 vR/\Boxed w2 (B0+1) 36 vr/\Boxed w2 (B0+2) 3 (iV (a.hd:Int))/\w2.heap[B0+3]? =W.heap[B0+3]?/\
   dQ w2 B vR a.rs (λk=>k=g)/\Own w2 B (.slice (some (aD g 0)) (a.rc.length+d.length) cap) (a.rc ++ d):=by
 have ox:=h.lo;have dG:∀k,k<B->vr.ownBlock≠some k:=λk b e=>by have:=jn h.rc e;omega
 have f:∀k,k<B->k<W.heap.size->w2.heap[k]? =W.heap[k]? :=λk b n=>i.block k n (λe=>dG k b e.symm);refine⟨(f _ (by omega) h.r.lt).trans h.r,(f _ (by omega) h.c.lt).trans h.c,(f _ (by omega) h.h.lt).trans h.h,f _ (by omega) (aw h.d),?_,?_⟩
 .refine h.rs.step (λk b=>?_) (λk cur m o=>?_) (λk b e=>?_)
  .obtain⟨p,l,_⟩:=h.rs;obtain⟨cur,aq⟩:=bJ l b;refine i.block k (aw aq) (λe=>?_);obtain⟨acI,aW⟩:=bJ h.rc e.symm;exact tN aq aW (by decide)
  .exact i.block k (aw m) (λe=>o e.symm)
  .rcases ic with ic|ic
   .rw [e];exact ic
   .omega
 .rw [<-iE] at j;have:a.rc.length+d.length=(a.rc ++ d).length:=by simp
  unfold Own;rw [this] at j⊢;exact j
theorem Cv {B:Nat} {r:List Int} (aY:W.ownsRow B 36 1 v rs.length vs)
    (IY:∀i (b:i<rs.length),∃g c,vs[i]? =some (.slice (some (aD g 0)) (rs[i]).length c)/\ay W 5 g c (bs rs[i])/\B<=g) (p:ay W 5 g c (bs r)) (k:B<=g)
    (o:W'.ownsRow B 36 1 (.slice (some (aD g' 0)) (rs.length+1) QU) (rs.length+1) (vs ++ [.slice (some (aD g 0)) r.length c])) (m:W.grownBy W' v.ownBlock):
  dQ W' B (.slice (some (aD g' 0)) (rs.length+1) QU) (rs ++ [r]) (λ_=>False):=by
 have n:vs.length=rs.length:=by have:=aY.1;simpa using this
 have au:∀{x y:Nat} {l:List Int},ay W 5 x y (bs l)->ay W' 5 x y (bs l):=λ{x y l} h=>by
  obtain⟨cur,a,oM⟩:=h;refine⟨cur,(m.block x (aw a) (λe=>?_)).trans a,oM⟩;obtain⟨acI,aW⟩:=bJ aY e.symm;exact tN a aW (by decide)
 refine⟨vs ++ [.slice (some (aD g 0)) r.length c],by rw [dT];exact o,λi b=>?_⟩;by_cases e:i<rs.length
 .obtain⟨x,y,d,f,j⟩:=IY i e;refine⟨x,y,?_,?_,j,λh=>h⟩
  .rw [List.getElem?_append_left (by omega),d,List.getElem_append_left e]
  .rw [List.getElem_append_left e];exact au f
 .have nj:i=rs.length:=by simp at b;omega
  subst nj;refine⟨g,c,?_,?_,k,λh=>h⟩
  .rw [List.getElem?_append_right (by omega),n,Nat.sub_self];simp
  .simp;exact au p
theorem jq.set {f:World} {B:Nat} {n:SS} (h:jq W B0 B E n vR vr) (a:aa (λk=>k=B0+3) W f) (ps j c:Nat)
    (hd:f.heap[B0+3]? =some (.cells #[.int .i64 (E:Int), .int .i64 (ps:Int), .int .i64 (j:Int), .int .i64 (c:Int)] 228 (0,0))):jq f B0 B E {n with ps:=ps,j:=j,c:=c} vR vr:=by
 have ox:=h.lo;refine⟨(a.block _ h.r.lt (by omega)).trans h.r,(a.block _ h.c.lt (by omega)).trans h.c,(a.block _ h.h.lt (by omega)).trans h.h,hd,?_,?_,ox⟩
 .refine h.rs.step (λg b=>?_) (λg cur m _=>?_) (λ_ _ e=>e)
  .obtain⟨o,l,_⟩:=h.rs;obtain⟨cur,i⟩:=bJ l b;exact a.block g (aw i) (by have:=jn l b;omega)
  .exact a.block g (aw m) (λe=>tN m (e▸h.d) (by decide))
 .exact em h.rc (λg b=>by
   obtain⟨cur,i⟩:=bJ h.rc b;exact a.block g (aw i) (by have:=jn h.rc b;omega))
structure ir (B0:Nat) (w W W':World):Prop where
 b:bW w W'
 k:KeepsFrom (B0+6) W W'
 p:Ge B0 (B0+1+1+1+1) (B0+1+1+1+1+1) W W'
theorem ir.below (h:ir B0 w W W') (c:w.heap.size=B0) (i:B0+6<=W.heap.size) (a:bW W' W''):ir B0 w W W'':=by
 have g:=h.k.size;refine⟨h.b.trans (a.mono h.b.size),⟨jQ h.k.size a.size,λk o d e f=>?_⟩,h.p.1.trans (a.mono (by omega)),(a.block _ (by omega)).trans h.p.2.1,(a.block _ (by omega)).trans h.p.2.2⟩;have:=h.k.same k o d e f;exact(a.block k (aw this)).trans this
theorem ir.set (h:ir B0 w W W') (c:w.heap.size=B0) {b:Nat} (a:B0<=b) (aW:b<B0+4) (j:Nat) (v:Value):ir B0 w W (W'.setCell ⟨b,j,none⟩ v):=by
 refine⟨h.b.setCell (p:=⟨b,j,none⟩) (by rw [c];exact a) v,h.k.trans ((KeepsOthers.setCell _ _ _).from _),h.p.1.setCell (p:=⟨b,j,none⟩) a v,?_,?_⟩
 .exact(Below.heap_setCell W' ⟨b,j,none⟩ v _ (by show _≠b;omega)).trans h.p.2.1
 .exact(Below.heap_setCell W' ⟨b,j,none⟩ v _ (by show _≠b;omega)).trans h.p.2.2
theorem ir.start (a:bW w W):ir B0 w W W:=⟨a,KeepsFrom.refl _ _,Ge.refl _ _ _ _⟩
theorem ir.grown {row:Option Nat} (h:ir B0 w W W') (m:w.heap.size=B0) (q:B0+6<=W.heap.size) (a:W'.grownBy W'' row) (c:∀r,row=some r->B0+6<=r/\∃cur t,W'.heap[r]? =some (.cells cur t (0,0))):ir B0 w W W'':=by
 have l:=h.k.size;have dG:∀k,k<B0+6->some k≠row:=λk n e=>by have:=(c k e.symm).1;omega
 refine⟨h.b.grown a h.b.size (λk e=>by have:=(c k e).1;omega),⟨jQ h.k.size a.size,λk o i j f=>?_⟩,h.p.1.grown a (by omega) (λk e=>by have:=(c k e).1;omega),(a.block _ (by omega) (dG _ (by omega))).trans h.p.2.1,(a.block _ (by omega) (dG _ (by omega))).trans h.p.2.2⟩;have d:=h.k.same k o i j f;refine(a.block k (aw d) (λe=>?_)).trans d;obtain⟨cur,t,g⟩:=(c k e.symm).2;rw [d] at g;cases g;cases f
theorem dQ.low {B:Nat} (h:dQ W B v rs X) (p:B'<=B) (j:∀k,X' k->X k):dQ W B' v rs X':=by
 obtain⟨o,⟨d,b⟩,f⟩:=h;refine⟨o,⟨d,?_⟩,λi l=>?_⟩
 .rcases b with b|⟨g,a,cur,e,r,oM⟩
  .exact .inl b
  .exact .inr ⟨g,a,cur,e,by omega,oM⟩
 .obtain⟨g,c,e,m,q,n⟩:=f i l;exact⟨g,c,e,m,by omega,λh=>n (j _ h)⟩
theorem dQ.wT {B:Nat} (h:dQ W B v rs X) {b:Nat} (p:b<B) (j:Nat) (u:Value):dQ (W.setCell ⟨b,j,none⟩ u) B v rs X:=by
 obtain⟨o,a,d⟩:=h;refine⟨o,em a (λg l=>Below.heap_setCell W ⟨b,j,none⟩ u g (by have:=jn a l;show g≠b;omega)),λi m=>?_⟩;obtain⟨g,c,e,⟨cur,k,oM⟩,f,n⟩:=d i m;exact⟨g,c,e,⟨cur,(Below.heap_setCell W ⟨b,j,none⟩ u g (by show g≠b;omega)).trans k,oM⟩,f,n⟩
theorem Own.wT {B:Nat} {l:List Int} (h:Own W B v l) {b:Nat} (c:b<B) (j:Nat) (u:Value):Own (W.setCell ⟨b,j,none⟩ u) B v l:=
 em h (λg a=>Below.heap_setCell W ⟨b,j,none⟩ u g (by have:=jn h a;show g≠b;omega))
theorem bU {b j:Nat} {u:Value} {o:Obj} (h:W.heap[c]? =some o) (dG:c≠b):(W.setCell ⟨b,j,none⟩ u).heap[c]? =some o:=(Below.heap_setCell W ⟨b,j,none⟩ u c dG).trans h
theorem jq.more {B:Nat} {a:SS} (h:jq W B0 B E a vR vr)
    (q:w2.ownsRow B 5 1 (.slice (some (aD g 0)) (a.rc.length+d.length) cap) (a.rc.length+d.length) (bs a.rc ++ bs d)) (p:W.grownBy w2 vr.ownBlock) (ic:vr.ownBlock=some g\/g=W.heap.size) (J:Int) (o:J=((a.j+1:Nat):Int)):
  jq ((w2.setCell ⟨B0+1,0,none⟩ (.slice (some ⟨g,0,none⟩) (a.rc.length+d.length) cap)).setCell ⟨B0+3,2,none⟩ (.int .i64 J)) B0 B E {a with rc:=a.rc ++ d,j:=a.j+1} vR (.slice (some (aD g 0)) (a.rc.length+d.length) cap):=by
 subst o;have ox:=h.lo;obtain⟨e,f,i,l,m,n⟩:=h.grow q p ic;refine⟨bU (bU e (by omega)) (by omega),bU ((heap_setCell_same _ _ 0 _ _ _ f).trans (by simp)) (by omega),bU (bU i (by omega)) (by omega),?_,?_,?_,ox⟩
 .have:=heap_setCell_same _ _ 2 _ _ (iV ((a.j+1:Nat):Int)) (bU (b:=B0+1) (j:=0) (u:= .slice (some (aD g 0)) (a.rc.length+d.length) cap) (l.trans h.d) (by omega));exact this.trans (by simp)
 .refine((m.wT (b:=B0+1) (by omega) 0 _).wT (b:=B0+3) (by omega) 2 _).low (bP _) (λk c=>?_);simp [Value.ownBlock] at c;exact c.symm
 .exact(n.wT (by omega) 0 _).wT (by omega) 2 _
theorem jq.whole {l:World} {B:Nat} {a:SS} (h:jq W B0 B E a vR vr)
    (I:w2.ownsRow B 5 1 (.slice (some (aD g 0)) (a.rc.length+d.length) cap) (a.rc.length+d.length) (bs a.rc ++ bs d)) (q:W.grownBy w2 vr.ownBlock) (ic:vr.ownBlock=some g\/g=W.heap.size) (S:B<=W.heap.size)
    (aY:w2.ownsRow B 36 1 vR a.rs.length vs) (IY:∀i (u:i<a.rs.length),∃g c,vs[i]? =some (.slice (some (aD g 0)) (a.rs[i]).length c)/\ay w2 5 g c (bs a.rs[i])/\B<=g)
    (Bu:l.ownsRow B 36 1 (.slice (some (aD g' 0)) (a.rs.length+1) QU) (a.rs.length+1) (vs ++ [.slice (some (aD g 0)) (a.rc.length+d.length) cap])) (wI:0<d.length) (o:Obj) (E7:(w2.alloc o).grownBy l vR.ownBlock) (P:Nat) (Q:Int) (G:Q=(P:Int)):
  jq ((((l.setCell ⟨B0,0,none⟩ (.slice (some ⟨g',0,none⟩) (a.rs.length+1) QU)).setCell ⟨B0+1,0,none⟩ (.slice none 0 0)).setCell ⟨B0+2,0,none⟩ (.int .i64 Q)).setCell ⟨B0+3,2,none⟩ (.int .i64 0)) B0 B E {a with rs:=a.rs ++ [a.rc ++ d],rc:= [],hd:=P,j:=0} (.slice (some (aD g' 0)) (a.rs.length+1) QU) (.slice none 0 0):=by
 subst G;have ox:=h.lo;obtain⟨z,A,C,D,R,F⟩:=h.grow I q ic;have dG:∀k,k<B->vR.ownBlock≠some k:=λk n e=>by have:=jn aY e;omega
 have m:∀k s,k<B->w2.heap[k]? =some s->l.heap[k]? =some s:=λk s n f=>(E7.block k (by have:=aw f;simp;omega) (λe=>dG k n e.symm)).trans ((Below.heap_alloc _ _ _ (aw f)).trans f);have p:B<=g:=by
  rcases ic with ic|ic
  .exact jn h.rc ic
  .omega
 have mI:ay w2 5 g cap (bs (a.rc ++ d)):=by
  obtain⟨O,e,_,_,J⟩:=F.row (by simp;omega);cases e;exact J
 have f:a.rc.length+d.length=(a.rc ++ d).length:=by simp
 rw [f] at Bu;have acJ:=Cv (W:=w2.alloc o) (W':=l) (r:=a.rc ++ d) (em aY (λg q=>by
   obtain⟨cur,H⟩:=bJ aY q;exact Below.heap_alloc _ _ _ (aw H))) (λi u=>by
   obtain⟨x,y,v,t,w⟩:=IY i u;exact⟨x,y,v,t.agree (Below.heap_alloc _ _ _ t.lt),w⟩) (mI.agree (Below.heap_alloc _ _ _ mI.lt)) p Bu E7
 have K:=m _ _ (by omega) z;have L:=m _ _ (by omega) A;have M:=m _ _ (by omega) C;have N:=m _ _ (by omega) (D.trans h.d);refine⟨?_,?_,?_,?_,?_,Own.nil _ _,ox⟩
 .exact bU (bU (bU ((heap_setCell_same _ _ 0 _ _ _ K).trans (by simp)) (by omega)) (by omega)) (by omega)
 .exact bU (bU ((heap_setCell_same _ _ 0 _ _ _ (bU L (by omega))).trans (by simp)) (by omega)) (by omega)
 .exact bU ((heap_setCell_same _ _ 0 _ _ _ (bU (bU M (by omega)) (by omega))).trans (by simp)) (by omega)
 .exact(heap_setCell_same _ _ 2 _ _ _ (bU (bU (bU N (by omega)) (by omega)) (by omega))).trans (by simp)
 .exact((((acJ.wT (b:=B0) (by omega) 0 _).wT (b:=B0+1) (by omega) 0 _).wT (b:=B0+2) (by omega) 0 _).wT (b:=B0+3) (by omega) 2 _).low (bP _) (λk n=>by simp [Value.ownBlock] at n)
section
def xD (ops:Array Oper):Bool:=ops.all λo=>match o.op with| .defer _=>false|_=>true
theorem DT {a:Array Oper} (h:xD a=true) {o:Oper} (b:a[i]? =some o):∀c,o.op≠ .defer c:=by
 intro c e;have:=Array.all_eq_true_iff_forall_mem.1 h o (Array.mem_of_getElem? b);rw [e] at this;cases this
section
variable {P:Program} {ops:Array Oper} {Q:Exit->Act->World->Prop} {l n:Nat}
theorem No {row:String} {args:Array Value} {R:Value->World->Prop} (h:Rows P row args w R):RowsIn (Fence.wide.inRound l) n P row args w R:=λc cs _=>by
 obtain⟨v,w',a,b⟩:=h c cs;exact⟨v,w',a,stepsIn_wide.2 b⟩
theorem ze {o:Oper} {a:Act} {K:Act->World->Prop} (IR:∀c,o.op≠ .defer c) (h:o.wp P a w K Q):o.wpIn (Fence.wide.inRound l) n P a w K Q:=by
 unfold Oper.wpIn;refine⟨λ_ _=>trivial,?_⟩;rw [Oper.semAt_eq _ _ _ IR];unfold Oper.wp at h;generalize (execOp a.eval o).run P w=r at*;cases r with
 |ok x w'=>
  cases x <;> simp only [Oper.upon,Oper.uponIn] at h⊢<;>
   first
    |exact h
    |exact⟨λh=>(by cases h),CallsIn.inRound l (callsIn_wide.2 h)⟩
    |exact⟨λh=>(by cases h),No h⟩
    |exact h.elim
 |halt x w'=>cases x <;> simp only [Oper.upon,Oper.uponIn] at h⊢<;> exact h
theorem Np {a:Act} {K:Act->World->Prop} (hd:xD ops=true) (d:¬LetsOut Q) (h:wpOp P ops Q i K a w):wpOpIn (Fence.wide.inRound l) n P ops Q i K a w:=by
 unfold wpOp at h;unfold wpOpIn;cases b:ops[i]? with
 |none=>simp only [b] at h;exact h
 |some o=>
  simp only [b] at h⊢;split
  .rename_i c;simp only [c,if_true] at h;rcases h with h|h
   .exact ze (DT hd b) h
   .exact absurd h.2 d
  .rename_i c;simp only [c] at h;exact⟨λ_ _=>trivial,h⟩
theorem zf {d:Region.Mode} (hd:xD ops=true) (c:¬LetsOut Q):∀(b:Nat) (QV:Array Bool) (a:Act) (w:World),wpAny P d ops Q b QV a w->wpAnyIn (Fence.wide.inRound l) n P d ops Q b QV a w
 |0,_,_,_,h=>h
 |b+1,_listed,_a,_w,h=>⟨h.1,λi e=>wpOpIn_mono (λa w h=>zf hd c b _ a w h) (Np hd c (h.2 i e))⟩
theorem nC {c:Nat} {a:Act} {K:Act->World->Prop} {S:World->Prop} (b:P.follows .mixedOrders=true) (hd:xD ops=true) (h:wpAnyH P .any ops (Exit.then K (λ_ _ _=>False)) S ops.size (Array.replicate ops.size false) a w.drew):
    (Code.region c ops true).wpIn (Fence.wide.inRound l) n P (Exit.then K Q) a w:=
 wpIn_mono (wpIn_region_any b (zf hd (λ⟨_,_,h⟩=>h) _ _ _ _ (wpAny_of_held _ _ _ _ h))) (λe a w h=>by cases e <;> first|exact h|exact h.elim)
theorem fQ {o:Oper} {a:Act} {K:Act->World->Prop} (s x:Operand) (t:TypeId) (b:o.op= .call {callee:= .builtin .append,args:= #[s,x],argTypes:= #[t,t]}) (v u r:Value) (d:a.eval s=v) (e:a.eval x=u)
    (c:(Builtin.append_ #[t,t] o.type #[v,u]).run P w= .ok r w') (h:K (a.put o.dst r) w'):o.wp P a w K Q:=by
 unfold Oper.wp execOp;simp only [b,resolve,invoke,builtin,Sem.run_bind,Sem.run_pure,Result.andThen_ok,List.map_toArray,List.map_cons,List.map_nil,d,e,c];exact h
theorem rn {o:Oper} {rest:List Oper} {a:Act} (f:o.guard=none) (s x:Operand) (t:TypeId) (b:o.op= .call {callee:= .builtin .append,args:= #[s,x],argTypes:= #[t,t]}) (v u r:Value) (i:a.eval s=v) (j:a.eval x=u)
    (g:(Builtin.append_ #[t,t] o.type #[v,u]).run P w= .ok r w') (h:wpListIn (Fence.wide.inRound l) n P ops Q rest (a.put o.dst r) w'):wpListIn (Fence.wide.inRound l) n P ops Q (o :: rest) a w:=
 wpListIn_plain f λ_ d=>ze (by rw [b];intro c e;cases e) (fQ s x t b v u r i j g (d _ _ h))
end
end
section
open Go.RowKit Go.Shelf
attribute [local go_sem] Oper.semAt_some
theorem Nq {B:Nat} (h:gS w B g n n R):∃(A:Nat->Option Addr) (C:Nat->Nat),∀i,i<n->w.rangeAt g (i*5) (eI ((R i).e:Int) ((R i).p:Int) ((R i).i:Int) ((R i).c:Int) (A i) (R i).d.length (C i)).toList/\Src w (A i) (R i).d.length (R i).d:=by
 have b:=λi (a:i<n)=>(h.2 i a).range;refine⟨λi=>if a:i<n then Classical.choose (b i a) else none,λi=>if a:i<n then Classical.choose (Classical.choose_spec (b i a)) else 0,λi a=>?_⟩;simp only [a,dite_true];have:=Classical.choose_spec (Classical.choose_spec (b i a));exact⟨this.1,this.2.1⟩
theorem Nr (w:World) (a b c d f g:Obj):((((((w.alloc a).alloc b).alloc c).alloc d).alloc f).alloc g).heap[w.heap.size]? =some a/\((((((w.alloc a).alloc b).alloc c).alloc d).alloc f).alloc g).heap[w.heap.size+1]? =some b/\((((((w.alloc a).alloc b).alloc c).alloc d).alloc f).alloc g).heap[w.heap.size+2]? =some c/\
    ((((((w.alloc a).alloc b).alloc c).alloc d).alloc f).alloc g).heap[w.heap.size+3]? =some d/\((((((w.alloc a).alloc b).alloc c).alloc d).alloc f).alloc g).heap[w.heap.size+1+1+1+1]? =some f/\((((((w.alloc a).alloc b).alloc c).alloc d).alloc f).alloc g).heap[w.heap.size+1+1+1+1+1]? =some g:=by
 have e:((((((w.alloc a).alloc b).alloc c).alloc d).alloc f).alloc g).heap=(((((w.heap.push a).push b).push c).push d).push f).push g:=rfl;rw [e];refine⟨?_,?_,?_,?_,?_,?_⟩
 .rw [Array.getElem?_push,aA (by simp;omega),Array.getElem?_push,aA (by simp;omega),Array.getElem?_push,aA (by simp;omega),Array.getElem?_push,aA (by simp;omega),Array.getElem?_push,aA (by simp),Array.getElem?_push,aE rfl]
 .rw [Array.getElem?_push,aA (by simp),Array.getElem?_push,aA (by simp),Array.getElem?_push,aA (by simp),Array.getElem?_push,aA (by simp),Array.getElem?_push,aE (by simp)]
 .rw [Array.getElem?_push,aA (by simp),Array.getElem?_push,aA (by simp),Array.getElem?_push,aA (by simp),Array.getElem?_push,aE (by simp)]
 .rw [Array.getElem?_push,aA (by simp),Array.getElem?_push,aA (by simp),Array.getElem?_push,aE (by simp)]
 .rw [Array.getElem?_push,aA (by simp),Array.getElem?_push,aE (by simp)]
 .rw [Array.getElem?_push,aE (by simp)]
theorem za.split {xs:List (Fin n)} {x:Fin n} (h:za (xs ++ [x]) (k+1)):xs.map Fin.val=List.range k/\x.1=k:=by
 unfold za at h;rw [List.map_append,List.range_succ] at h;obtain⟨a,b⟩:=List.append_inj' h rfl;exact⟨a,by simpa using b⟩
def L7 (w w':World) (R:Nat->PC) (E T n:Nat) (e:Ending):Prop:=∃v h rs,e= .returned (.tuple #[v, .int .i64 ((h:Nat):Int)])/\dQ w' w.heap.size v rs (λ_=>False)/\dC (Rp R n) E T rs h/\(∀c d,¬Rec (Rp R n) E h c d)/\Below w.heap.size w w'
theorem Gg {B D T:Nat} {f:List Deferred} (h:dQ W B v rs X) (j:w.heap.size<=B) (a:Below w.heap.size w W) (g:W.heap[D]? =some (.deferred (some f))) (l:w.heap.size<=D) (i:dC (Rp R n) E T rs hd/\∀c d,¬Rec (Rp R n) E hd c d):
  L7 w (W.drew.putObj D (.deferred none)) R E T n (.returned (.tuple #[v, .int .i64 ((hd:Nat):Int)])):=by
 have k:ko W (W.drew.putObj D (.deferred none)):=λb cur t m a=>by
  have dG:b≠D:=λe=>by rw [e,g] at a;cases a
  exact(World.putObj_heap_other dG).trans a
 refine⟨v,hd,rs,rfl,(h.cells k).low j (λ_ h=>h.elim),i.1,i.2,?_⟩;exact(ai a).trans (belowK_b (w:=w) (bP _) W.drew D (.deferred (some f)) (.deferred none) l g rfl rfl)
theorem qK {B:Nat} {e:List Int} (az:Own W B v e) {a:Option Addr} (c:Nat) (f:Src W a n d) (hd:0<n) (k:e.length+n<=1000000) (r:B<=W.heap.size):
  ∃g cap w',(Builtin.append_ #[36,36] 36 #[v, .slice a n c]).run prog W= .ok (.slice (some ⟨g,0,none⟩) (e.length+d.length) cap) w'/\w'.ownsRow B 5 1 (.slice (some ⟨g,0,none⟩) (e.length+d.length) cap) (e.length+d.length) (bs e ++ bs d)/\W.grownBy w' v.ownBlock/\(v.ownBlock=some g\/g=W.heap.size):=by
 obtain⟨w,s,gv,dr,ec⟩:=info_parts fW;obtain⟨b,o,rfl⟩:=cT f hd;have i:=f.1;obtain⟨g,cap,w',l,m,p,q,_⟩:=run_append_lies (P:=prog) W 36 36 B 5 w (.int .u8 0) 1 1 underlying36 s gv dr ec rfl (by decide) v e.length (bs e) az ⟨b,o,none⟩ n c (bs d) (by simp [bs,i]) (λj u t=>by
   obtain⟨YQ,rfl⟩:=fq t;exact f.2.2 _ rfl j (by omega)) (cB d) hd (by unfold maxLen;omega) (by omega) r W.heap.size rfl
 rw [i];exact⟨g,cap,w',l,m,p,q⟩
theorem L8 {B:Nat} (aY:W.ownsRow B 36 1 v k vs) (x:Value) (i:x.oneCell'=true) (m:k<=1000000) (l:B<=W.heap.size):
  ∃g cap w',(Builtin.append_ #[62,62] 62 #[v, .slice (some ⟨W.heap.size,0,none⟩) 1 1]).run prog (W.alloc (.cells #[x] 36))= .ok (.slice (some ⟨g,0,none⟩) (k+1) cap) w'/\w'.ownsRow B 36 1 (.slice (some ⟨g,0,none⟩) (k+1) cap) (k+1) (vs ++ [x])/\(W.alloc (.cells #[x] 36)).grownBy w' v.ownBlock:=by
 obtain⟨j,f,gv,dr,ec⟩:=info_parts td;obtain⟨g,cap,w',a,b,c,_,_⟩:=run_append_lies (P:=prog) (W.alloc (.cells #[x] 36)) 62 62 B 36 j (.slice none 0 0) 1 24 underlying62 f gv dr ec rfl (by decide) v k vs (em aY (λg e=>by
   obtain⟨cur,d⟩:=bJ aY e;exact Below.heap_alloc _ _ _ (aw d))) ⟨W.heap.size,0,none⟩ 1 1 [x] rfl (World.news_of_block (cs:= #[x]) (t:=36) (fr:=(0,0)) (heap_alloc_new W _)) (by simpa using i) (by omega) (by unfold maxLen;omega) (by omega) (by simp;omega) _ rfl
 exact⟨g,cap,w',a,b,c⟩
def Xu (R:Nat->PC) (E T n x:Nat) (st:SS) (y Bx:Nat) (a:Option Addr) (k:Nat) (vR vr:Value) (w W:World) (e:Ending) (W2:World):Prop:=
 ∃(b:Bool) (c:Nat),e= .returned (.bool b)/\b=st.tL R E T n x/\c=st.due R T n x/\jq W2 w.heap.size (w.heap.size+6) E {st with ps:=T+x,j:=st.j,c:=c} vR vr/\ir w.heap.size w W W2/\W2.heap[Bx]? =some (.cells (eI ((R y).e:Int) ((R y).p:Int) ((R y).i:Int) ((R y).c:Int) a (R y).d.length k) 230 (0,0))
theorem Cw {F:Fence} {P:Program} {c:Code} {K:Act->World->Prop} {Q:Exit->Act->World->Prop} {a:Act} (h:c.wpIn F n P (Exit.then K (λ_ _ _=>False)) a w):c.wpIn F n P (Exit.then K Q) a w:=
 wpIn_mono h (λe a w h=>by cases e <;> first|exact h|exact h.elim)
theorem zg {row:Option Nat} (h:Below w.heap.size w W) (a:W.grownBy W' row) (b:∀r,row=some r->w.heap.size<=r):Below w.heap.size w W':=h.grown a h.size (λk e=>b k e)
theorem pL {row:Option Nat} {t:TypeId} (d:W.grownBy W' row) (f:∀r,row=some r->∃cur,W.heap[r]? =some (.cells cur t (0,0))) {b:Nat} {a:Nat×Nat} (h:W.heap[b]? =some (.cells cur' t' a)) (dG:t≠t'):W'.heap[b]? =some (.cells cur' t' a):=
   (d.block b (aw h) (λe=>by
  obtain⟨cur,c⟩:=f b e.symm;exact tN c h dG)).trans h
set_option maxRecDepth 100000 in
theorem QW (g n E T:Nat) (R:Nat->PC) (w:World) (B:Nat) (hr:gS w B g n n R) (iQ:1<=n) (hn:n<=256) (hT:T<=1073741824) (_hE:E<=1073741824) (Ub:∀i,(R i).d.length<=492) (Gh:∀i,(R i).c<=65536):
  Calls prog 155 #[.slice (some ⟨g,0,none⟩) n n, .int .i64 (E:Int), .int .i64 (T:Int)] w λe w'=>L7 w w' R E T n e:=by
 refine(callsIn_wide (n:=6)).1 ?_;refine callsIn_of_wp_marks func155 rfl trivial ?_ rfl;simp only [ntmps155,List.size_toArray,List.length_cons,List.length_nil,Nat.reduceAdd,Nat.reduceSub,Array.replicate_succ,Array.replicate_zero,List.push_toArray,List.append_toArray,List.nil_append,List.cons_append]
 gi_wp2
 refine(wpIn_wide (n:=6)).2 (wp_scope_straight ((wpIn_wide (n:=6)).1 ?_))
 gi_wp2
 refine wpIn_label ?_
 gi_wp2_with (refine⟨trivial,?_⟩;gi_at_call 194;refine(callsIn_wide.2 (TQ g n T _)).mono ?_;rintro e w' ⟨rfl,rfl⟩)
 obtain⟨U,JX⟩:∃U,((((((w.alloc (.cells #[.slice none 0 0] 62)).alloc (.cells #[.slice none 0 0] 36)).alloc (.cells #[.int .i64 (T:Int)] 3)).alloc (.cells #[.int .i64 (E:Int), .int .i64 0, .int .i64 0, .int .i64 0] 228)).alloc (.cells #[.slice (some ⟨g,0,none⟩) n n] 186)).alloc (.cells #[.int .i64 (T:Int)] 3))=U:=⟨_,rfl⟩;rw [JX];have ef:U.heap.size=w.heap.size+6:=by rw [<-JX];simp
 have fo:Below w.heap.size w U:=by rw [<-JX];exact((((((bi _ w).alloc (bP _) _).alloc (by simp) _).alloc (by simp;omega) _).alloc (by simp;omega) _).alloc (by simp;omega) _).alloc (by simp;omega) _
 have lj:jq U w.heap.size (w.heap.size+6) E (SS.start T) (.slice none 0 0) (.slice none 0 0)/\U.heap[w.heap.size+1+1+1+1]? =some (.cells #[.slice (some ⟨g,0,none⟩) n n] 186 (0,0))/\U.heap[w.heap.size+1+1+1+1+1]? =some (.cells #[.int .i64 (T:Int)] 3 (0,0)):=by
  rw [<-JX];obtain⟨s1,s2,s3,s4,s5,s6⟩:=Nr w (.cells #[.slice none 0 0] 62) (.cells #[.slice none 0 0] 36) (.cells #[.int .i64 (T:Int)] 3) (.cells #[.int .i64 (E:Int), .int .i64 0, .int .i64 0, .int .i64 0] 228) (.cells #[.slice (some ⟨g,0,none⟩) n n] 186) (.cells #[.int .i64 (T:Int)] 3);exact⟨⟨s1,s2,s3,s4,dQ.nil _ _ _,Own.nil _ _,bP _⟩,s5,s6⟩
 obtain⟨A,C,hAC⟩:=Nq hr;clear JX;refine wpIn_rangeFunc_ownH rfl (by omega) (gf:=227) (lb:= #[.pointer (some ⟨w.heap.size+1+1+1+1,0,none⟩), .pointer (some ⟨w.heap.size+1+1+1+1+1,0,none⟩)]) rfl trivial (enters_of func227 (by kernel_rfl) rfl)
    (LA (6-1) (by omega) (w.heap.size+1+1+1+1) (w.heap.size+1+1+1+1+1) w.heap.size g n T R A C iQ hn hT U (by omega) lj.2.1 lj.2.2 ⟨hr.lt,λi O j v hv=>(fo.cell (p:=⟨g,i*5+j,none⟩) hr.lt).trans ((hAC i O).1 j v hv)⟩) Ge.t (Ge.b (by omega) (by omega) (by omega)) (bi _ _) (λ_=>rfl)
    (λu W=>∃a G z,srun R E T n (u.map Fin.val) (SS.start T)=some a/\jq W w.heap.size (w.heap.size+6) E a G z/\Below w.heap.size w W/\w.heap.size+6<=W.heap.size)
    (λc u W=>c= .exit 0/\∃QX x a ps c' G z,u=QX ++ [x]/\srun R E T n (QX.map Fin.val) (SS.start T)=some a/\a.tL R E T n x.1=false/\jq W w.heap.size (w.heap.size+6) E {a with ps:=ps,c:=c'} G z/\Below w.heap.size w W)
  ?hI ?hIx ⟨_,_,_,rfl,lj.1,fo,by omega⟩
    (λx a' W=>∃q,w.heap.size+6<=q/\W.heap[q]? =some (.cells (eI ((R ((T+x.1)%n)).e:Int) ((R ((T+x.1)%n)).p:Int) ((R ((T+x.1)%n)).i:Int) ((R ((T+x.1)%n)).c:Int) (A ((T+x.1)%n)) (R ((T+x.1)%n)).d.length (C ((T+x.1)%n))) 230 (0,0))/\a'={tmps:= #[Value.slice (some ⟨g,0,none⟩) n n, .int .i64 (E:Int), .int .i64 (T:Int),undef,undef,undef, .slice none 0 0, .int .i64 0, .pointer (some ⟨w.heap.size,0,none⟩), .pointer (some ⟨w.heap.size+1,0,none⟩), .pointer (some ⟨w.heap.size+1+1,0,none⟩), .pointer (some ⟨w.heap.size+1+1+1,0,none⟩), .int .i64 ((T:Int)+(x.1:Int)), .pointer (some ⟨q,0,none⟩), .int .i64 (T:Int), .int .i64 (E:Int), .agg #[.int .i64 (E:Int), .int .i64 0, .int .i64 0, .int .i64 0], .slice (some ⟨g,0,none⟩) n n, .int .i64 (T:Int), .func (.func 227) #[] #[.pointer (some ⟨w.heap.size+1+1+1+1,0,none⟩), .pointer (some ⟨w.heap.size+1+1+1+1+1,0,none⟩)], .int .i64 ((T:Int)+(x.1:Int)),kW ((R ((T+x.1)%n)).e:Int) ((R ((T+x.1)%n)).p:Int) ((R ((T+x.1)%n)).i:Int) ((R ((T+x.1)%n)).c:Int) (A ((T+x.1)%n)) (R ((T+x.1)%n)).d.length (C ((T+x.1)%n)),undef,undef,undef,undef,undef,undef,undef,undef,undef,undef,undef,undef,undef,undef,undef,undef,undef,undef,undef,undef,undef,undef,undef,undef,undef,undef,undef,undef,undef,undef,undef,undef,undef,undef,undef,undef,undef,undef],defers:= []}) ?hAx ?assign ?body ?done ?stop
 case hI=>
  rintro s X Y row ⟨a,G,z,H,m,I,J⟩ N aY;exact⟨a,G,z,H,m.cells (i6 N (λr e=>(aY r e).2)),zg I N (λr e=>by have:=(aY r e).1;omega),jQ J N.size⟩
 case hIx=>
  rintro c s X Y row ⟨L,QX,x,a,ps,c',G,z,h0,H,m,I,J⟩ N aY;exact⟨L,QX,x,a,ps,c',G,z,h0,H,m,I.cells (i6 N (λr e=>(aY r e).2)),zg J N (λr e=>by have:=(aY r e).1;omega)⟩
 case hAx=>
  rintro x a' s X Y row ⟨q,H,m,I⟩ N aY;exact⟨q,H,i6 N (λr e=>(aY r e).2) _ _ _ _ m,I⟩
 case assign=>
  rintro l u x W K ⟨a,G,z,H,m,I,J⟩ f;simp only [Vh]
  gi_wp2
  exact f _ _ ((KeepsOthers.alloc _ _).from _) ⟨(bi _ W).alloc (by omega) _,Below.heap_alloc _ _ _ (by omega),Below.heap_alloc _ _ _ (by omega)⟩ ⟨a,G,z,H,m.cells (el (aI _ _)),I.trans ((aI _ _).mono (by omega)),by simp;omega⟩ ⟨W.heap.size,by omega,heap_alloc_new _ _,rfl⟩
 case body=>
  rintro l u x a' W hl ⟨rr,JY⟩ ⟨a,G,z,H,m,I,J⟩ ⟨q,hBx,Ns,rfl⟩ bm;have km:=yZ R E T n Ub Gh u.length (u.map Fin.val) a (by simp) H;have hx:=x.2;have hyn:(T+x.1)%n<n:=Nat.mod_lt _ iQ;obtain⟨y,hy⟩:=bQ ((T+x.1)%n);have IZ:a.tL R E T n x.1=Gc (R y) E (T+x.1) a.j (a.due R T n x.1):=by unfold SS.tL;rw [<-hy]
  have Vj:a.due R T n x.1=if a.j=0 then (R y).c else a.c:=by unfold SS.due;rw [<-hy]
  have Zc:a.next R T n x.1=if (R y).i+1=(R y).c then ⟨a.rs ++ [a.rc ++ (R y).d], [],T+x.1+1,T+x.1,0,a.due R T n x.1⟩ else ⟨a.rs,a.rc ++ (R y).d,a.hd,T+x.1,a.j+1,a.due R T n x.1⟩:=by unfold SS.next;rw [<-hy]
  rw [<-hy] at hyn Ns;simp only [<-hy];have HNx:=yh Zc;have acK:Yh (∀c,c=a.due R T n x.1->a.tL R E T n x.1=Gc (R y) E (T+x.1) a.j c):=λc L=>by rw [L];exact IZ
  have uY:((T+x.1:Nat):Int)=(T:Int)+(x.1:Int):=by omega
  have d1:W.cell? ⟨w.heap.size+1+1+1,1,none⟩=some (.int .i64 (a.ps:Int)):=bD m.d;have d2:W.cell? ⟨w.heap.size+1+1+1,2,none⟩=some (.int .i64 (a.j:Int)):=bH m.d;have d0:W.cell? ⟨w.heap.size+1+1+1,0,none⟩=some (.int .i64 (E:Int)):=aL m.d;have d3:W.cell? ⟨w.heap.size+1+1+1,3,none⟩=some (.int .i64 (a.c:Int)):=fI m.d;have df:∀j,W.frozen? ⟨w.heap.size+1+1+1,j,none⟩=false:=λj=>ae m.d j;have p0:W.cell? ⟨q,0,none⟩=some (.int .i64 ((R y).e:Int)):=aL Ns;have p1:W.cell? ⟨q,1,none⟩=some (.int .i64 ((R y).p:Int)):=bD Ns;have p2:W.cell? ⟨q,2,none⟩=some (.int .i64 ((R y).i:Int)):=bH Ns;have p3:W.cell? ⟨q,3,none⟩=some (.int .i64 ((R y).c:Int)):=fI Ns;have p4:W.cell? ⟨q,4,none⟩=some (.slice (A y) (R y).d.length (C y)):=gz Ns;have dG:q≠w.heap.size+1+1+1:=by omega
  have HS:=yh ef;by_cases hj:a.j=0
  case' pos=>
   have d2':W.cell? ⟨w.heap.size+1+1+1,2,none⟩=some (.int .i64 0):=(by rw [d2,hj];rfl);clear d2;have QY:a.due R T n x.1=(R y).c:=(by rw [Vj,aE hj]);have bK:jq ((W.setCell ⟨w.heap.size+1+1+1,1,none⟩ (.int .i64 ((T:Int)+(x.1:Int)))).setCell ⟨w.heap.size+1+1+1,3,none⟩ (.int .i64 ((R y).c:Int))) w.heap.size (w.heap.size+6) E {a with ps:=T+x.1,j:=a.j,c:=(R y).c} G z:=m.set ((aJ (F:=λk=>k=w.heap.size+3) W rfl 1 _).trans (aJ (F:=λk=>k=w.heap.size+3) _ rfl 3 _) (λ_ h=> .inl h)) (T+x.1) a.j (R y).c ((heap_setCell_same _ _ 3 _ _ _ (heap_setCell_same _ _ 1 _ _ _ m.d)).trans (by simp [hj]));have eH:ir w.heap.size w W ((W.setCell ⟨w.heap.size+1+1+1,1,none⟩ (.int .i64 ((T:Int)+(x.1:Int)))).setCell ⟨w.heap.size+1+1+1,3,none⟩ (.int .i64 ((R y).c:Int))):=((ir.start I).set rfl (by omega) (by omega) 1 _).set rfl (by omega) (by omega) 3 _;have oY:(((W.setCell ⟨w.heap.size+1+1+1,1,none⟩ (.int .i64 ((T:Int)+(x.1:Int)))).setCell ⟨w.heap.size+1+1+1,3,none⟩ (.int .i64 ((R y).c:Int)))).heap[q]? =some (.cells (eI ((R y).e:Int) ((R y).p:Int) ((R y).i:Int) ((R y).c:Int) (A y) (R y).d.length (C y)) 230 (0,0)):=bU (bU Ns (by omega)) (by omega);rw [QY] at IZ;have Xv:=CallsIn.inRound l (callsIn_wide (n:=3).2 ((QT (R y) (A y) (C y) E (T+x.1) a.j (R y).c ((W.setCell ⟨w.heap.size+1+1+1,1,none⟩ (.int .i64 ((T:Int)+(x.1:Int)))).setCell ⟨w.heap.size+1+1+1,3,none⟩ (.int .i64 ((R y).c:Int)))).mono (λe M h=>show Xu R E T n x.1 a y q (A y) (C y) G z w W e M from ⟨_,_,h.1,IZ.symm,QY.symm,bK.cells (el h.2),eH.below rfl J h.2,(h.2.block _ (aw oY)).trans oY⟩)));rw [uY] at Xv;rw [show (a.j:Int)=0 by omega] at Xv;clear m I Ns bK eH oY IZ Vj QY hy hj JY Zc ef lj fo uY hr
   gi_wp2_with fail
   refine⟨trivial,?_⟩;refine Xv.mono ?_;rintro e M ⟨b,c,rfl,IZ,QY,eM,aX,uK⟩;clear Xv
  case' neg=>
   have AX:((a.j:Int) == 0)=false:=(by rw [eG];omega);have QY:a.due R T n x.1=a.c:=(by rw [Vj,aA hj]);have bK:jq (W.setCell ⟨w.heap.size+1+1+1,1,none⟩ (.int .i64 ((T:Int)+(x.1:Int)))) w.heap.size (w.heap.size+6) E {a with ps:=T+x.1,j:=a.j,c:=a.c} G z:=m.set (aJ (F:=λk=>k=w.heap.size+3) W rfl 1 _) (T+x.1) a.j a.c ((heap_setCell_same _ _ 1 _ _ _ m.d).trans (by simp));have eH:ir w.heap.size w W (W.setCell ⟨w.heap.size+1+1+1,1,none⟩ (.int .i64 ((T:Int)+(x.1:Int)))):=(ir.start I).set rfl (by omega) (by omega) 1 _;have oY:((W.setCell ⟨w.heap.size+1+1+1,1,none⟩ (.int .i64 ((T:Int)+(x.1:Int))))).heap[q]? =some (.cells (eI ((R y).e:Int) ((R y).p:Int) ((R y).i:Int) ((R y).c:Int) (A y) (R y).d.length (C y)) 230 (0,0)):=bU Ns (by omega);rw [QY] at IZ;have Xv:=CallsIn.inRound l (callsIn_wide (n:=3).2 ((QT (R y) (A y) (C y) E (T+x.1) a.j a.c (W.setCell ⟨w.heap.size+1+1+1,1,none⟩ (.int .i64 ((T:Int)+(x.1:Int))))).mono (λe M h=>show Xu R E T n x.1 a y q (A y) (C y) G z w W e M from ⟨_,_,h.1,IZ.symm,QY.symm,bK.cells (el h.2),eH.below rfl J h.2,(h.2.block _ (aw oY)).trans oY⟩)));rw [uY] at Xv;clear m I Ns bK eH oY IZ Vj QY hy hj JY Zc ef lj fo uY hr
   gi_wp2_with fail
   refine⟨trivial,?_⟩;refine Xv.mono ?_;rintro e M ⟨b,c,rfl,IZ,QY,eM,aX,uK⟩;clear Xv
  all_goals
   obtain⟨dE,gQ,P,HGo,HDc⟩:=UE eM aX uK IZ QY;have q0:M.cell? ⟨q,0,none⟩=some (.int .i64 ((R y).e:Int)):=aL uK;have q1:M.cell? ⟨q,1,none⟩=some (.int .i64 ((R y).p:Int)):=bD uK;have q2:M.cell? ⟨q,2,none⟩=some (.int .i64 ((R y).i:Int)):=bH uK;have q3:M.cell? ⟨q,3,none⟩=some (.int .i64 ((R y).c:Int)):=fI uK;clear eM aX uK IZ QY d0 d1 d3 df p0 p1 p2 p3 p4;cases b
   .gi_wp2
    exact⟨HS.o▸gQ.o.k,rfl,u,x,a,T+x.1,c,G,z,rfl,H,HGo.o.symm,dE.o,gQ.o.b⟩
   .have hq:=DR.1 (HGo.o.trans (acK.o c HDc.o)).symm;have wI:=hq.1.2.2.2.2.1;have sX:=Ub y;have Fr:=Gh y;have E8:=CallsIn.inRound l (callsIn_wide (n:=3).2 (Gd (R y).e (R y).p (R y).i (R y).c M (by omega)));have fZ:=Ct R E T n _ _ _ x.1 H HGo.o.symm;rw [HNx.o,<-HDc.o,show u.map Fin.val ++ [x.1]=(u ++ [x]).map Fin.val by simp] at fZ;have Vk:=yh fZ;clear fZ hq;by_cases O:(R y).i+1=(R y).c
    .rw [aE O] at Vk;rw [show decide ((R y).i+1=(R y).c)=true by rw [decide_eq_true_eq];exact O] at E8;clear O
     gi_wp2_with fail
     refine⟨trivial,?_⟩;refine E8.mono ?_;rintro e Q ⟨rfl,bz⟩;have aV:=gQ.o.below rfl J bz;have kO:=aV.k.size;have wV:=(dE.o.cells (el bz)).cells (el (ai (bi Q.heap.size Q)));have Vl:=aV.below rfl J (ai (bi Q.heap.size Q));obtain⟨W4,su⟩:=bQ Q.drew;have QZ:W4.heap[q]? =Q.heap[q]? :=(by rw [su];rfl);rw [((bz.block _ (aw P.o)).trans P.o)] at QZ;rw [<-su] at wV Vl;have acL:w.heap.size+6<=W4.heap.size:=(by rw [su];show _<=Q.heap.size;omega);obtain⟨g4,DU,Z,vX,Fc,Gi,DV⟩:=qK wV.rc (C y) ((hAC y hyn).2.later Vl.b) wI (by show a.rc.length+_<=_;omega) acL;have tO:=wV.grow Fc Gi DV;have vS:=Gi.size;have dV:=Vl.grown rfl J Gi (λr e=>by
      obtain⟨cur,L⟩:=bJ wV.rc e;exact⟨jn wV.rc e,cur,_,L⟩)
     have Vm:=pL Gi (λr e=>bJ wV.rc e) QZ (by decide);obtain⟨vs,aY,IY⟩:=tO.2.2.2.2.1;have ah7:a.rs.length<=1000000:=(by omega);obtain⟨g5,Gj,w5,nD,FR,Uc⟩:=L8 aY (.slice (some ⟨g4,0,none⟩) (a.rc.length+(R y).d.length) DU) rfl ah7 (by omega);obtain⟨W6,Fe⟩:=bQ (Z.alloc (.cells #[.slice (some ⟨g4,0,none⟩) (a.rc.length+(R y).d.length) DU] 36));have ji:ir w.heap.size w W W6:=dV.below rfl J (by rw [Fe];exact aI _ _);have JZ:ko Z W6:=(by rw [Fe];exact el (aI _ _));have L9:=JZ _ _ _ _ Vm;have vY:=em (W':=W6) aY (λg N=>by
      obtain⟨cur,L⟩:=bJ aY N;rw [JZ _ _ _ _ L,L])
     rw [<-Fe] at nD;have Vn:W6.grownBy w5 G.ownBlock:=(by rw [Fe];exact Uc);have gy:=ji.grown rfl J Vn (λr e=>by
      obtain⟨cur,L⟩:=bJ vY e;exact⟨jn vY e,cur,_,L⟩)
     have hp7:=pL Vn (λr e=>bJ vY e) L9 (by decide);have Bv:∀k cur t fz,k<w.heap.size+6->Z.heap[k]? =some (Obj.cells cur t fz)->w5.heap[k]? =some (Obj.cells cur t fz):=λk cur t fz hk hl=>(Vn.block k (aw (JZ _ _ _ _ hl)) (λe=>by have:=jn vY e.symm;omega)).trans (JZ _ _ _ _ hl);have Fd:=wV.whole Fc Gi DV acL aY (λi O=>by
      obtain⟨x1,x2,x3,x4,x5,_⟩:=IY i O;exact⟨x1,x2,x3,x4,x5⟩) FR wI _ Uc (T+x.1+1) ((T:Int)+(x.1:Int)+1) (by omega)
     have jv:=((((gy.set rfl (b:=w.heap.size) (by omega) (by omega) 0 (.slice (some ⟨g5,0,none⟩) (a.rs.length+1) Gj)).set rfl (b:=w.heap.size+1) (by omega) (by omega) 0 (.slice none 0 0)).set rfl (b:=w.heap.size+1+1) (by omega) (by omega) 0 (.int .i64 ((T:Int)+(x.1:Int)+1))).set rfl (b:=w.heap.size+1+1+1) (by omega) (by omega) 2 (.int .i64 0));have gV:Yh (∀W':World,W'.heap[w.heap.size+1]? =some (.cells #[z] 36 (0,0))->W'.heap[q]? =some (.cells (eI ((R y).e:Int) ((R y).p:Int) ((R y).i:Int) ((R y).c:Int) (A y) (R y).d.length (C y)) 230 (0,0))->(W'.cell? ⟨w.heap.size+1,0,none⟩=some z/\W'.cell? ⟨q,4,none⟩=some (.slice (A y) (R y).d.length (C y)))):=λW' H m=>⟨aL H,gz m⟩;obtain⟨S4,S5,S6⟩:=jS (gV.o W4 wV.c QZ) (gV.o Z tO.2.1 Vm) (gV.o W6 (JZ _ _ _ _ tO.2.1) L9);have S7:=yh (gV.o w5 (Bv _ _ _ _ (by omega) tO.2.1) hp7);have S8:=yh (gV.o (w5.setCell ⟨w.heap.size,0,none⟩ (.slice (some ⟨g5,0,none⟩) (a.rs.length+1) Gj)) (bU (Bv _ _ _ _ (by omega) tO.2.1) (by omega)) (bU hp7 (by omega)));have b4:=wV.r.cell;have b5:=tO.1.cell;have b6:W6.cell? ⟨w.heap.size,0,none⟩=some G:=aL (JZ _ _ _ _ tO.1);have b7:w5.cell? ⟨w.heap.size,0,none⟩=some G:=aL (Bv _ _ _ _ (by omega) tO.1);have f7:=ae (Bv _ _ _ _ (by omega) tO.1) 0;have cf7:=ae (Bv _ _ _ _ (by omega) tO.2.1) 0;have d7:w5.cell? ⟨w.heap.size+1+1,0,none⟩=some (.int .i64 (a.hd:Int)):=aL (Bv _ _ _ _ (by omega) tO.2.2.1);have df7:w5.frozen? ⟨w.heap.size+1+1,0,none⟩=false:=ae (Bv _ _ _ _ (by omega) tO.2.2.1) 0;have e7:w5.cell? ⟨w.heap.size+1+1+1,2,none⟩=some (.int .i64 (a.j:Int)):=bH (Bv _ _ _ _ (by omega) (tO.2.2.2.1.trans wV.d));have ef7:w5.frozen? ⟨w.heap.size+1+1+1,2,none⟩=false:=ae (Bv _ _ _ _ (by omega) (tO.2.2.2.1.trans wV.d)) 2;have Zb:prog.follows .mixedOrders=true:=(by kernel_rfl);obtain⟨HW,Pd,HZ8,Vo,HR5,HW6,IW⟩:=abW Fd jv (jQ J jv.k.size) vX nD Fe su;clear bz aV Vl dV ji gy jv Fd tO Fc Gi DV E8 vX nD FR Uc Vn aY vY IY JZ Bv QZ Vm L9 hp7 wV su Fe gV
     gi_wp2_with fail
     refine nC (S:=λW'=>W'.cell? ⟨w.heap.size+1,0,none⟩=some z/\W'.cell? ⟨q,4,none⟩=some (.slice (A y) (R y).d.length (C y))) Zb (by kernel_rfl) ?_;rw [<-IW.o];refine wpAnyH_take (i:=1) (v:=z) rfl (by kernel_rfl) (by kernel_rfl) (by kernel_rfl) (λ_ _ _ h=>h) (Or.inl ⟨by rfl,?_⟩) S4.out ?_
     .rintro W1 ⟨y1,y2⟩;go_simp
     try simp only [Act.put,List.setIfInBounds_toArray]
     refine wpAnyH_take (i:=2) (v:= .pointer (some ⟨q,4,none⟩)) rfl (by kernel_rfl) (by kernel_rfl) (by kernel_rfl) (λ_ _ _ h=>h) (Or.inl ⟨by rfl,?_⟩) S4.out ?_
     .rintro W1 ⟨y1,y2⟩;go_simp
     try simp only [Act.put]
     refine wpAnyH_take (i:=3) (v:= .slice (A y) (R y).d.length (C y)) rfl (by kernel_rfl) (by kernel_rfl) (by kernel_rfl) (λ_ _ _ h=>h) (Or.inl ⟨by rfl,?_⟩) S4.out ?_
     .rintro W1 ⟨y1,y2⟩;go_simp
     try simp only [Act.put]
     refine wpAnyH_ready (rs:= [0,4]) (by kernel_rfl) (by simp) (AllReadyH.cons rfl (λK f=>?_) (AllReadyH.cons rfl (λK f=>?_) AllReadyH.nil))
     .skip
      go_simp;refine f.out _ _ S4.out (λ_=>?_);clear f K;try simp only [Act.put,List.setIfInBounds_toArray,List.set_cons_zero,List.set_cons_succ]
      refine wpAnyH_ready (rs:= [4]) (by kernel_rfl) (by simp) (AllReadyH.cons rfl (λK f=>?_) AllReadyH.nil);rw [aE (by rfl)];refine fQ _ _ 36 rfl _ _ _ rfl rfl Vo.o ?_;refine f.out _ _ S5.out (λ_=>?_);clear f K;try simp only [Act.put,List.setIfInBounds_toArray]
      refine wpAnyH_ready (rs:= [5]) (by kernel_rfl) (by simp) (AllReadyH.cons rfl (λK f=>?_) AllReadyH.nil);go_simp;rw [<-HW6.o];refine f.out _ _ S6.out (λ_=>?_);clear f K;try simp only [Act.put,List.setIfInBounds_toArray,List.set_cons_zero,List.set_cons_succ]
      refine wpAnyH_ready (rs:= [6]) (by kernel_rfl) (by simp) (AllReadyH.cons rfl (λK f=>?_) AllReadyH.nil);rw [aE (by rfl)];refine fQ _ _ 62 rfl _ _ _ rfl rfl HR5.o ?_;refine f.out _ _ S7.out (λ_=>?_);clear f K;try simp only [Act.put,List.setIfInBounds_toArray]
      refine wpAnyH_ready (rs:= [7]) (by kernel_rfl) (by simp) (AllReadyH.cons rfl (λK f=>?_) AllReadyH.nil);go_simp;refine f.out _ _ S8.out (λ_=>?_);clear f K;try simp only [Act.put,List.setIfInBounds_toArray,List.set_cons_zero,List.set_cons_succ]
      refine wpAnyH_done (by kernel_rfl) ?_ _
      (gi_wp2;exact⟨HS.o▸Pd.o.k,Pd.o.p,_,_,_,Vk.o,HW.o,Pd.o.b,HZ8.o⟩)
     .skip
      rw [aE (by rfl)];refine fQ _ _ 36 rfl _ _ _ rfl rfl Vo.o ?_;refine f.out _ _ S5.out (λ_=>?_);clear f K;try simp only [Act.put]
      refine wpAnyH_ready (rs:= [0,5]) (by kernel_rfl) (by simp) (AllReadyH.cons rfl (λK f=>?_) (AllReadyH.cons rfl (λK f=>?_) AllReadyH.nil))
      .skip
       go_simp;refine f.out _ _ S5.out (λ_=>?_);clear f K;try simp only [Act.put,List.setIfInBounds_toArray,List.set_cons_zero,List.set_cons_succ]
       refine wpAnyH_ready (rs:= [5]) (by kernel_rfl) (by simp) (AllReadyH.cons rfl (λK f=>?_) AllReadyH.nil);go_simp;rw [<-HW6.o];refine f.out _ _ S6.out (λ_=>?_);clear f K;try simp only [Act.put,List.setIfInBounds_toArray,List.set_cons_zero,List.set_cons_succ]
       refine wpAnyH_ready (rs:= [6]) (by kernel_rfl) (by simp) (AllReadyH.cons rfl (λK f=>?_) AllReadyH.nil);rw [aE (by rfl)];refine fQ _ _ 62 rfl _ _ _ rfl rfl HR5.o ?_;refine f.out _ _ S7.out (λ_=>?_);clear f K;try simp only [Act.put,List.setIfInBounds_toArray]
       refine wpAnyH_ready (rs:= [7]) (by kernel_rfl) (by simp) (AllReadyH.cons rfl (λK f=>?_) AllReadyH.nil);go_simp;refine f.out _ _ S8.out (λ_=>?_);clear f K;try simp only [Act.put,List.setIfInBounds_toArray,List.set_cons_zero,List.set_cons_succ]
       refine wpAnyH_done (by kernel_rfl) ?_ _
       (gi_wp2;exact⟨HS.o▸Pd.o.k,Pd.o.p,_,_,_,Vk.o,HW.o,Pd.o.b,HZ8.o⟩)
      .skip
       go_simp;rw [<-HW6.o];refine f.out _ _ S6.out (λ_=>?_);clear f K;try simp only [Act.put,List.setIfInBounds_toArray,List.set_cons_zero,List.set_cons_succ]
       refine wpAnyH_ready (rs:= [0]) (by kernel_rfl) (by simp) (AllReadyH.cons rfl (λK f=>?_) AllReadyH.nil);go_simp;refine f.out _ _ S6.out (λ_=>?_);clear f K;try simp only [Act.put,List.setIfInBounds_toArray,List.set_cons_zero,List.set_cons_succ]
       refine wpAnyH_ready (rs:= [6]) (by kernel_rfl) (by simp) (AllReadyH.cons rfl (λK f=>?_) AllReadyH.nil);rw [aE (by rfl)];refine fQ _ _ 62 rfl _ _ _ rfl rfl HR5.o ?_;refine f.out _ _ S7.out (λ_=>?_);clear f K;try simp only [Act.put,List.setIfInBounds_toArray]
       refine wpAnyH_ready (rs:= [7]) (by kernel_rfl) (by simp) (AllReadyH.cons rfl (λK f=>?_) AllReadyH.nil);go_simp;refine f.out _ _ S8.out (λ_=>?_);clear f K;try simp only [Act.put,List.setIfInBounds_toArray,List.set_cons_zero,List.set_cons_succ]
       refine wpAnyH_done (by kernel_rfl) ?_ _
       (gi_wp2;exact⟨HS.o▸Pd.o.k,Pd.o.p,_,_,_,Vk.o,HW.o,Pd.o.b,HZ8.o⟩)
    .rw [aA O] at Vk;rw [show decide ((R y).i+1=(R y).c)=false by rw [decide_eq_false_iff_not];exact O] at E8;clear O
     gi_wp2_with fail
     refine⟨trivial,?_⟩;refine E8.mono ?_;rintro e Q ⟨rfl,bz⟩;have jK:=dE.o.cells (el bz);have aV:=gQ.o.below rfl J bz;have r4:Q.cell? ⟨q,4,none⟩=some (.slice (A y) (R y).d.length (C y)):=gz ((bz.block _ (aw P.o)).trans P.o);have r9:=jK.c.cell;have kO:=aV.k.size;obtain⟨g4,DU,Z,bC,Fc,Gi,DV⟩:=qK jK.rc (C y) ((hAC y hyn).2.later aV.b) wI (by show a.rc.length+_<=_;omega) (by omega);have tO:=jK.grow Fc Gi DV;have s9:=tO.2.1.cell;have f9:=tO.2.1.frozen;have s11:Z.cell? ⟨w.heap.size+1+1+1,2,none⟩=some (.int .i64 (a.j:Int)):=bH (tO.2.2.2.1.trans jK.d);have f11:Z.frozen? ⟨w.heap.size+1+1+1,2,none⟩=false:=ae (tO.2.2.2.1.trans jK.d) 2;have hmo:=jK.more Fc Gi DV ((a.j:Int)+1) (by show _=((a.j+1:Nat):Int);omega);have dV:=aV.grown rfl J Gi (λr e=>by
      obtain⟨cur,L⟩:=bJ jK.rc e;exact⟨jn jK.rc e,cur,_,L⟩)
     have dX:=(dV.set rfl (b:=w.heap.size+1) (by omega) (by omega) 0 (.slice (some ⟨g4,0,none⟩) (a.rc.length+(R y).d.length) DU)).set rfl (b:=w.heap.size+1+1+1) (by omega) (by omega) 2 (.int .i64 ((a.j:Int)+1));have Zd:(a.j:Int)<1000000:=(by omega);have Ze:w.heap.size+6<=((Z.setCell ⟨w.heap.size+1,0,none⟩ (.slice (some ⟨g4,0,none⟩) (a.rc.length+(R y).d.length) DU)).setCell ⟨w.heap.size+1+1+1,2,none⟩ (.int .i64 ((a.j:Int)+1))).heap.size:=(by have:=dX.k.size;omega);obtain⟨HM,T8,HZ5,ro⟩:=Bg hmo dX Ze bC;clear bz jK aV dV dX hmo tO Fc Gi DV E8 bC Ze
     gi_wp2_with (gi_at_builtin;refine rn rfl _ _ 36 rfl _ _ _ rfl rfl ro.o ?_)
     exact⟨HS.o▸T8.o.k,T8.o.p,_,_,_,Vk.o,HM.o,T8.o.b,HZ5.o⟩
 case done=>
  rintro D xs W hD o7 ⟨a,G,z,H,m,I,J⟩ Q0;have q1:=m.r.cell;have q2:W.cell? ⟨w.heap.size+1+1,0,none⟩=some (.int .i64 (a.hd:Int)):=m.h.cell;have Zb:prog.follows .mixedOrders=true:=by kernel_rfl
  have ht:=Nn R E T n iQ a (by rw [<-o7];exact H);have HZ:=yh (Gg m.rs (by omega) I Q0 (by omega) ht);clear m I J H ht o7
  gi_wp2
  refine Cw ?_
  gi_region_with_o (fail)
  all_goals
   gi_wp2
   rw [Exit.noGoto_ret];refine⟨by simp, .inl ⟨_,_,rfl,run_takeDeferred Q0,?_⟩⟩;refine⟨_,results_tmp2 rfl _ _ _,?_⟩;simp only [Act.put,List.getElem_toArray,List.getElem_cons_zero,List.getElem_cons_succ,List.setIfInBounds_toArray,List.set_cons_zero,List.set_cons_succ];exact HZ.o
 case stop=>
  rintro D c u W hD ⟨k,hk,pK⟩ ⟨rfl,QX,x,a,ps,c',G,z,h0,H,IZ,m,I⟩ Q0;have q1:=m.r.cell;have q2:W.cell? ⟨w.heap.size+1+1,0,none⟩=some (.int .i64 (a.hd:Int)):=m.h.cell;have Zb:prog.follows .mixedOrders=true:=by kernel_rfl
  have ht:dC (Rp R n) E T a.rs a.hd/\∀c d,¬Rec (Rp R n) E a.hd c d:=by
   subst h0;obtain⟨oY,uK⟩:=pK.split;exact Nm R E T n k a (by rw [<-oY];exact H) (by rw [<-uK];exact IZ)
  have HZ:=yh (Gg m.rs (by omega) I Q0 (by omega) ht);clear m I H ht pK h0 IZ
  gi_wp2
  refine Cw ?_
  gi_region_with_o (fail)
  all_goals
   gi_wp2
   rw [Exit.noGoto_ret];refine⟨by simp, .inl ⟨_,_,rfl,run_takeDeferred Q0,?_⟩⟩;refine⟨_,results_tmp2 rfl _ _ _,?_⟩;simp only [Act.put,List.getElem_toArray,List.getElem_cons_zero,List.getElem_cons_succ,List.setIfInBounds_toArray,List.set_cons_zero,List.set_cons_succ];exact HZ.o
end
section
def dW (S:DS) (f:Nat):Nat->PC:=λi=>cF (S.now (f+2+i))
def bV (S:DS) (f:Nat):Nat×Nat×Nat:=gU (S.now f) (S.now (f+1))
def ia (S:DS) (f n:Nat):Nat:=max (bV S f).1 (rtop (dW S f) n)
theorem xE {S:DS} (h:(bV S f).2.2=0):1<=(bV S f).1/\(bV S f).1<=1073741824/\(bV S f).2.1<=1073741824:=by
 unfold bV gU at*;split at h
 .cases h
 .rename_i a;rw [aA a];refine⟨?_,?_,?_⟩<;> simp only <;> omega
theorem xF {S:DS} (h:(bV S f).2.2=0):ia S f n<=1073741824:=by
 unfold ia;have:=xE h;have:=xC (dW S f) n;omega
structure Told (w':World) (B l p:Nat) (L:LG) (S:DS) (v:Value) (rs:List (List Int)) (hd:Nat):Prop where
 r:dQ w' B v rs (λ_=>False)
 t:dC (Rp (dW S L.f) L.n) (bV S L.f).1 (bV S L.f).2.1 rs hd
 x:∀c d,¬Rec (Rp (dW S L.f) L.n) (bV S L.f).1 hd c d
 p:cQ w' l p {L with ep:=(bV S L.f).1,tail:=(bV S L.f).2.1,head:=hd,top:=ia S L.f L.n}
def pM (w':World) (B l p:Nat) (L:LG) (S:DS) (e:Ending):Prop:=
 if (bV S L.f).2.2≠0 then e= .returned (.tuple #[.slice none 0 0,iV ((bV S L.f).2.2:Int)])
 else if ia S L.f L.n=1073741824 then e= .returned (.tuple #[.slice none 0 0,iV 41])
 else∃v rs hd,e= .returned (.tuple #[v,iV 0])/\Told w' B l p L S v rs hd
theorem cQ.J0 {w:World} {l p:Nat} {L:LG} (h:cQ w l p L) (T:Int) (n:Nat) (a:T=(n:Int)):cQ (w.setCell ⟨l,8,none⟩ (.int .i64 T)) l p {L with top:=n}:=by
 subst a;exact(heap_setCell_same _ _ 8 _ _ _ h).trans (by simp)
theorem cQ.marked {w:World} {l p:Nat} {L:LG} (h:cQ w l p L) (E T H:Nat):cQ (((w.setCell ⟨l,5,none⟩ (.int .i64 (E:Int))).setCell ⟨l,6,none⟩ (.int .i64 (T:Int))).setCell ⟨l,7,none⟩ (.int .i64 (H:Int))) l p {L with ep:=E,tail:=T,head:=H}:=
   (heap_setCell_same _ _ 7 _ _ _ (heap_setCell_same _ _ 6 _ _ _ (heap_setCell_same _ _ 5 _ _ _ h))).trans (by simp)
section
variable {w:World} {F:Nat->Prop} {p s l:Nat} {S:DS} {L:LG}
end
end
section
def bu (S:DS) (s:Nat) (f n:Int):Int×DS:=
 if cq S s f n≠0 then (cq S s f n,S) else if (bV S f.toNat).2.2≠0 then (((bV S f.toNat).2.2:Int),S.take)
 else if ia S f.toNat n.toNat=1073741824 then (41,S.take) else S.take.fl s
def LG.new (S:DS) (f n:Nat):LG:=⟨f,n,wrap64 (S.life+1),false,0,0,0,0⟩
def J1 (w w':World) (p s:Nat) (S:DS) (f n:Int) (e:Ending):Prop:=
 if (bu S s f n).1≠0 then e= .returned (.tuple #[.pointer none, .slice none 0 0,iV (bu S s f n).1])
 else∃l v rs hd,e= .returned (.tuple #[pQ l,v,iV 0])/\w.heap.size<=l/\Told w' w.heap.size l p (LG.new S f.toNat n.toNat) S v rs hd
theorem Told.low {w:World} {B p:Nat} {S:DS} (h:Told w B l p L S v rs hd) (a:B'<=B):Told w B' l p L S v rs hd:=⟨h.r.low a (λ_ h=>h),h.t,h.x,h.p⟩
theorem Told.au {w:World} {B p:Nat} {S:DS} {F:Nat->Prop} (h:Told w B l p L S v rs hd) (d:aa F w w') (f:∀k,F k->k<B) (u:¬F l):Told w' B l p L S v rs hd:=by
 refine⟨?_,h.t,h.x,h.p.au d u⟩;obtain⟨z,a,n⟩:=h.r;refine⟨z,em a (λg j=>?_),λi s=>?_⟩
 .obtain⟨cur,q⟩:=bJ a j;exact d.block g (aw q) (λb=>by have:=jn a j;have:=f _ b;omega)
 .obtain⟨g,c,e,m,o,y⟩:=n i s;exact⟨g,c,e,m.agree (d.block g m.lt (λb=>by have:=f _ b;omega)),o,y⟩
section
variable {w:World} {F:Nat->Prop} {p s:Nat} {S:DS}
theorem Told.Zf {w:World} {B p:Nat} (h:Told w B l p L S.take v rs hd):Told w B l p L S v rs hd:=⟨h.r,h.t,h.x,h.p⟩
theorem pM.Zf {B a b:Nat} {e:Ending} (h:pM w' B l p (LG.new S a b) S.take e):if (bV S a).2.2≠0 then e= .returned (.tuple #[.slice none 0 0,iV ((bV S a).2.2:Int)])
 else if ia S a b=1073741824 then e= .returned (.tuple #[.slice none 0 0,iV 41])
 else∃v rs hd,e= .returned (.tuple #[v,iV 0])/\Told w' B l p (LG.new S a b) S v rs hd:=by
 unfold pM at h;change if (bV S a).2.2≠0 then e= .returned (.tuple #[.slice none 0 0,iV ((bV S a).2.2:Int)])
  else if ia S a b=1073741824 then e= .returned (.tuple #[.slice none 0 0,iV 41])
  else∃v rs hd,e= .returned (.tuple #[v,iV 0])/\Told w' B l p (LG.new S a b) S.take v rs hd at h
 split at h
 .rename_i c;rw [aE c];exact h
 .rename_i c;rw [aA c];split at h
  .rename_i d;rw [aE d];exact h
  .rename_i d;rw [aA d];obtain⟨v,rs,hd,e,f⟩:=h;exact⟨v,rs,hd,e,f.Zf⟩
end
end
section
open Go.RowKit Go.Shelf
attribute [local go_sem] Oper.semAt_some
def Gk (b c:Nat) (W W':World):Prop:=W'.heap[b]? =W.heap[b]?/\W'.heap[c]? =W.heap[c]?
theorem Gk.t {b:Nat} {B:World} (h:Gk b c A B) (k:Gk b c B C):Gk b c A C:=⟨k.1.trans h.1,k.2.trans h.2⟩
theorem Gk.b {b:Nat} (g:b<w.heap.size) (i:c<w.heap.size) (W:World) (l:Nat) (o e:Obj) (j:w.heap.size<=l) (f:W.heap[l]? =some o) (a:o.isCells=false) (d:o.isWalk=false):Gk b c W (W.putObj l e):=
   ⟨World.putObj_heap_other (by omega),World.putObj_heap_other (by omega)⟩
theorem Gk.refl (b c:Nat) (W:World):Gk b c W W:=⟨rfl,rfl⟩
theorem Nt (a:Option Addr) (n c:Nat) (w:World):
  Calls prog 214 #[.slice a n c,iV 492] w λe w'=>e= .returned (.func (.func 235) #[] #[pQ w.heap.size, .pointer (some ⟨w.heap.size+1,0,none⟩)])/\w'=(w.alloc (.cells #[.slice a n c] 36)).alloc (.cells #[.int .i64 492] 3):=by
 go_in;go_wp2;go_ret;exact⟨rfl,rfl⟩
def gk (n k:Nat):Nat:=min 492 (n-492*k)
def Vp (b o n q:Nat) (x:Fin q):Array Value:= #[.slice (some ⟨b,o+492*x.1,none⟩) (gk n x.1) (gk n x.1)]
set_option maxRecDepth 100000 in
theorem Nu (m:Nat) (X:1<=m) (l s p b o n c q:Nat) (kT:1<=n) (Y:n<=8364) (T:n<=c) (O:q=(n+491) / 492) (J D:List (Fin q)->World->Prop)
    (F:∀a (x:Fin q) W,J a W->a.length<q->YieldAt Fence.wide (m-1) prog l (Vp b o n q x) W λe W'=>
     (e= .returned (.bool true)/\J (a ++ [x]) W'/\Gk s p W W')\/(e= .returned (.bool false)/\D (a ++ [x]) W'))
    (W:World) (Ua:W.heap[s]? =some (.cells #[.slice (some ⟨b,o,none⟩) n c] 36 (0,0))) (f:W.heap[p]? =some (.cells #[.int .i64 492] 3 (0,0))) (E:AbidesFrom W.heap.size J) (h0:J [] W):
  CallsIn Fence.wide m prog 235 #[.func (.yield l) #[] #[],pQ s,pQ p] W λe W'=>(∃v,e= .returned v)/\
     ((∃ys,za ys q/\J ys W')\/(∃a,(∃k,k<q/\za a (k+1))/\D a W')):=by
 have P:n<=492*q/\492*q<n+492:=by omega
 clear O;refine callsIn_of_wp func235 rfl trivial ?_ rfl;simp only [ntmps235,List.size_toArray,List.length_cons,List.length_nil,Nat.reduceAdd,Nat.reduceSub,Array.replicate_succ,Array.replicate_zero,List.push_toArray,List.append_toArray,List.nil_append,List.cons_append]
 gi_wp2
 gi_loopw [4] (λi wr=>∃(k:Nat) (a:List (Fin q)),k<=q/\i=iV ((492*k:Nat):Int)/\za a k/\J a wr/\Gk s p W wr)
    (λi _=>492*q-(intOf i).toNat)
 case atStart=>exact⟨0, [],dU _,rfl,za.nil,h0,Gk.refl _ _ _⟩
 case round=>
  obtain⟨k,a,U,rfl,pK,d,fP⟩:=hrel;have G:=pK.length;have ed:=aL (fP.1.trans Ua);have oY:=aL (fP.2.trans f);by_cases bm:k<q
  .have g:=E a wr wr.drew none d ⟨rfl,rfl,rfl,bP _,λ_ _ _=>rfl⟩ (λr e=>by cases e);obtain⟨S,K,u,body,A,j⟩:=F a ⟨k,bm⟩ wr.drew g (by omega);have Zb:prog.follows .mixedOrders=true:=by kernel_rfl
   dsimp only [Vp] at A
   have Fr:gk n k=min 492 (n-492*k):=rfl;obtain⟨I,w⟩:=bQ (492*k);rw [<-w] at A Fr⊢;have N:I<n:=(by omega);obtain⟨z,H⟩:=bQ (gk n k);rw [<-H] at A Fr;have acg:min (492:Int) ((n-I:Nat):Int)=(z:Int):=(by omega);have PZ:((I:Int)+(z:Int)).toNat-I=z:=(by omega);have cw:(I:Int)<(n:Int):=(by omega);have M:(I:Int)<(c:Int):=(by omega);have Q:(I:Int)+(z:Int)<=(n:Int):=(by omega);have dr:(1:Int)<=(z:Int):=(by omega);have C:=yh w;clear w H Fr;have aia:=zb j;have L:=yh fP;have acO:=yh pK;clear j F d g fP E pK
   gi_wp2
   gi_region_with_o (fail)
   all_goals
    gi_wp2_with fail
    refine aia.mono ?_;rintro e R ⟨r,rfl,lG,fb⟩;obtain⟨Cu,zc⟩:=bL lG fb;clear lG fb;cases r
    .gi_wp2
     refine bodyPost_ret (results_none rfl _ _ _) rfl ?_;exact⟨⟨_,rfl⟩, .inr ⟨_,⟨k,bm,acO.o.snoc bm⟩,zc.o (by simp)⟩⟩
    .have aV:=L.o.t (Gk.t (B:=wr.drew) ⟨rfl,rfl⟩ (Cu.o rfl).2);have TX:=aL (aV.2.trans f);have ma:=yh aV;clear aV
     gi_wp2
     go_roundw;case rel=>exact⟨k+1,_,by omega,by rw [C.o];go_num,acO.o.snoc bm,(Cu.o (by simp)).1,ma.o⟩
     case measure=>have:=C.o;simp [intOf];omega
  .have y:=yh (show k=q by omega);have vQ:¬((492*k:Nat):Int)<(n:Int):=by omega
   gi_wp2
   go_end0
   exact⟨⟨_,rfl⟩, .inl ⟨a,(by rw [y.out] at pK;exact pK),d⟩⟩
theorem Gl (m:Nat) (s:1<=m) (e d b o n c q:Nat) (kT:1<=n) (t:n<=8364) (r:n<=c) (u:q=(n+491) / 492) (w:World)
    (Ua:w.heap[e]? =some (.cells #[.slice (some ⟨b,o,none⟩) n c] 36 (0,0))) (a:w.heap[d]? =some (.cells #[.int .i64 492] 3 (0,0))):
  SeqStopsK Fence.wide m prog 235 #[pQ e,pQ d] (Vp b o n q) (Gk e d) (λv=>za v q) (λf=>∃k,k<q/\za f (k+1)) q w:=
 λl J i W g j _ p h0=>Nu m s l e d b o n c q kT t r u J i p W ((g.block _ (aw Ua)).trans Ua) ((g.block _ (aw a)).trans a) j h0
def IsC (w:World) (k:Nat):Prop:=∃cur t fz,w.heap[k]? =some (Obj.cells cur t fz)
theorem fa.narrow {w:World} {F G:Nat->Prop} {a:Nat} (b:∀k,F k->IsC w k->G k):∀{xs:List Value} {d:List (List Int)},fa w F a xs d->fa w G a xs d
 | [], [],_=>trivial
 |_ :: _,_ :: _,⟨⟨g,c,h1,h2,h3,h4⟩,h5⟩=>⟨⟨g,c,h1,b g h2 (by obtain⟨cur,e,_⟩:=h4;exact⟨cur,_,_,e⟩),h3,h4⟩,fa.narrow b h5⟩
 | [],_ :: _,h=>h.elim
 |_ :: _, [],h=>h.elim
theorem gD.narrow {G:Nat->Prop} {m:Nat} (h:gD w F p s S m) (b:∀k,F k->(IsC w k\/k=m)->G k) (v:∀k,G k->k<w.heap.size):gD w G p s S m:=by
 obtain⟨o,l,D,q,n,d,c,e,x,i,j,r,a,t⟩:=h;refine⟨o,l,D,q,n,b _ d (.inl ⟨_,_,_,i⟩),b _ c (.inl (by obtain⟨cur,f,_⟩:=j;exact⟨cur,_,_,f⟩)),b _ e (.inr rfl),v,i,j,r,⟨a.keys,a.Fq,a.look,λk g=>?_,a.inj⟩,t⟩;obtain⟨d,xs,c,e⟩:=a.row k g;exact⟨b _ d (.inl (by obtain⟨cur,f,_⟩:=c;exact⟨cur,_,_,f⟩)),xs,c,e.narrow (λk g u=>b k g (.inl u))⟩
theorem bS.fm {m:Nat} (h:bS w F p s S m):F m:=by
 obtain⟨r,c,a,D,d,b,h⟩:=h;exact h.fm
def FC (F:Nat->Prop) (B m:Nat) (w:World) (k:Nat):Prop:=(F k\/B<=k)/\(IsC w k\/k=m)/\k<w.heap.size
end
section
theorem fR {c:Func} {p:Tmp} (h:c.results= #[.cell p 49]) (a:Array Value) (w:World) (g:Nat) (v:Int)
    (e:a.getD p undef=pQ g) (f:w.cell? (aD g 0)=some (iV v)):(results c a).run prog w= .ok (iV v) w:=by
 have b:a[p]?.getD undef=pQ g:=by simpa using e
 have d:(loadVar 49 (aD g 0)).run prog w= .ok (iV v) w:=by simp [go_sem,f]
 simp [results,h,b,asAddr,d]
def partOf (d:List Int) (k:Nat):List Int:=(d.drop (492*k)).take 492
theorem J2 (d:List Int) (k:Nat):(partOf d k).length=gk d.length k:=by
 unfold partOf gk;simp
def cY (x:Nat):Nat:=(x+491) / 492
def cP (L:LG) (S:DS) (s:Nat) (d:List Int) (k:Nat):Int×DS:=stepsTo S (λj T=>jM T s L.f L.n L.ep (L.head+j) j (cY d.length) (partOf d j)) k
def LG.fN (L:LG) (S:DS) (x:Nat):Int:=
 if L.bd S≠0 then L.bd S else if x=0 then 2 else if 8364<x then 7 else if 1073741824<L.head+cY x then 41 else if L.tail+L.n<L.head+cY x then 40 else 0
def LG.append (L:LG) (S:DS) (s:Nat) (d:List Int):Int×DS×LG:=
 if L.fN S d.length≠0 then (L.fN S d.length,S,L)
 else if (cP L S s d (cY d.length)).1≠0 then ((cP L S s d (cY d.length)).1,(cP L S s d (cY d.length)).2,L)
 else (0,(cP L S s d (cY d.length)).2,{L with head:=L.head+cY d.length})
section
variable {w:World} {F:Nat->Prop} {p s l:Nat} {S:DS} {L:LG}
def gT (W:World) (b l:Nat):Prop:=W.heap[b]? =some (.cells #[.pointer (some ⟨l,0,none⟩)] 89 (0,0))/\W.heap[b+1]? =some (.cells #[.int .i64 0] 49 (0,0))
theorem gT.err {b l:Nat} (h:gT W b l) (v:Int):(W.setCell ⟨b+1,0,none⟩ (.int .i64 v)).cell? ⟨b+1,0,none⟩=some (iV v):=
 aj (cur:= #[iV v]) (e:=49) ((heap_setCell_same _ _ 0 _ _ _ h.2).trans (by simp)) (j:=0) rfl
theorem gT.later {b l:Nat} (h:gT W b l) (a:bW W W'):gT W' b l:=⟨(a.block _ (aw h.1)).trans h.1,(a.block _ (aw h.2)).trans h.2⟩
theorem Nv (h:ax w F p s S) (J:cQ w l p L) (I:L.Ok s) (a:Option Addr) (x k:Nat) (z:x<=140737488355328) (b:L.fN S x≠0):
  Calls prog 175 #[pQ l, .slice a x k] w λe w'=>e= .returned (iV (L.fN S x))/\bW w w':=by
 obtain⟨M,JX⟩:=zEr ((w.alloc (.cells #[.pointer (some ⟨l,0,none⟩)] 89)).alloc (.cells #[.int .i64 0] 49));have fo:bW w M:=by rw [<-JX];exact iI _ _ _
 have Xh:gT M w.heap.size l:=by
  rw [<-JX];refine⟨(Below.heap_alloc _ _ _ (by simp)).trans (heap_alloc_new _ _),?_⟩;have:=heap_alloc_new (w.alloc (.cells #[.pointer (some ⟨l,0,none⟩)] 89)) (.cells #[.int .i64 0] 49);rwa [World.size_alloc] at this
 obtain⟨d,r,q,c,m,T,N⟩:=nW (jp (h.later fo) (J.later fo)) (yh JX) (yh Xh) (yh fo) (yh (J.later fo)) I.hi (yh I);unfold LG.fN at b⊢;clear h J fo Xh JX I;by_cases i:L.bd S=0
 .simp only [aA (λh:¬L.bd S=0=>h i)] at b⊢;rw [i] at d;clear i;by_cases A:x=0
  .simp only [aE A];have P:((x:Int) == 0)=true:=(by rw [beq_iff_eq];omega);clear b A;go_in;go_wp2_with fail;rw [r.o];refine bE d λw1 aq=>?_;have iA:=gT.later q.o aq;have u:w1.cell? (aD w.heap.size 0)=some (pQ l):=aL iA.1;have v:w1.cell? ⟨w.heap.size+1,0,none⟩=some (iV 0):=aL iA.2;have y:=ae iA.2 0;have cm:=m.o.later aq;have bK:=c.o.trans (aq.mono c.o.size);clear d aq;go_wp2_with fail;refine((λwx=>i5 x wx z) _).mono ?_;rintro e j ⟨rfl,dw⟩;have eB:=dw.symm;subst eB;clear dw;obtain⟨g,f⟩:=bL (bK.setCell (p:=⟨w.heap.size+1,0,none⟩) (by show _<=w.heap.size+1;omega) (iV 2)) (show (w1.setCell ⟨w.heap.size+1,0,none⟩ (.int .i64 2)).cell? ⟨w.heap.size+1,0,none⟩=some (iV 2) from iA.err _);clear bK iA cm;go_wp2_with fail;exact bodyPost_ret (fR rfl _ _ (w.heap.size+1) _ rfl f.o) rfl ⟨rfl,g.o⟩
  .simp only [aA A] at b⊢;have P:((x:Int) == 0)=false:=(by rw [eG];omega);clear A;by_cases D:8364<x
   .simp only [aE D];have Q:(8364:Int)<(x:Int):=(by omega);clear b D;go_in;go_wp2_with fail;rw [r.o];refine bE d λw1 aq=>?_;have iA:=gT.later q.o aq;have u:w1.cell? (aD w.heap.size 0)=some (pQ l):=aL iA.1;have v:w1.cell? ⟨w.heap.size+1,0,none⟩=some (iV 0):=aL iA.2;have y:=ae iA.2 0;have cm:=m.o.later aq;have bK:=c.o.trans (aq.mono c.o.size);clear d aq;go_wp2_with fail;refine((λwx=>i5 x wx z) _).mono ?_;rintro e j ⟨rfl,dw⟩;have eB:=dw.symm;subst eB;clear dw;obtain⟨g,f⟩:=bL (bK.setCell (p:=⟨w.heap.size+1,0,none⟩) (by show _<=w.heap.size+1;omega) (iV 7)) (show (w1.setCell ⟨w.heap.size+1,0,none⟩ (.int .i64 7)).cell? ⟨w.heap.size+1,0,none⟩=some (iV 7) from iA.err _);clear bK iA cm;go_wp2_with fail;exact bodyPost_ret (fR rfl _ _ (w.heap.size+1) _ rfl f.o) rfl ⟨rfl,g.o⟩
   .simp only [aA D] at b⊢;have Q:¬(8364:Int)<(x:Int):=(by omega);clear D;have mY:cY x=(x+491) / 492:=rfl;by_cases E:1073741824<L.head+cY x
    .simp only [aE E];clear b;obtain⟨C,t⟩:=bQ ((x+491) / 492);have YE:C<=17:=(by omega);have R:(1073741824:Int)<(L.head:Int)+(C:Int):=(by omega);have G:=yh t;clear E mY t;go_in;go_wp2_with fail;rw [r.o];refine bE d λw1 aq=>?_;have iA:=gT.later q.o aq;have u:w1.cell? (aD w.heap.size 0)=some (pQ l):=aL iA.1;have v:w1.cell? ⟨w.heap.size+1,0,none⟩=some (iV 0):=aL iA.2;have y:=ae iA.2 0;have bK:=c.o.trans (aq.mono c.o.size);have O:=(m.o.later aq).c7;clear d aq;go_wp2_with fail;refine((λwx=>i5 x wx z) _).mono ?_;rintro e j ⟨rfl,dw⟩;have eB:=dw.symm;subst eB;clear dw;rw [<-G.o];obtain⟨g,f⟩:=bL (bK.setCell (p:=⟨w.heap.size+1,0,none⟩) (by show _<=w.heap.size+1;omega) (iV 41)) (show (w1.setCell ⟨w.heap.size+1,0,none⟩ (.int .i64 41)).cell? ⟨w.heap.size+1,0,none⟩=some (iV 41) from iA.err _);clear bK iA;go_wp2_with fail;exact bodyPost_ret (fR rfl _ _ (w.heap.size+1) _ rfl f.o) rfl ⟨rfl,g.o⟩
    .simp only [aA E] at b⊢;by_cases K:L.tail+L.n<L.head+cY x
     .simp only [aE K];clear b;obtain⟨C,t⟩:=bQ ((x+491) / 492);have YE:C<=17:=(by omega);have R:¬(1073741824:Int)<(L.head:Int)+(C:Int):=(by omega);have X:(L.n:Int)-((L.head:Int)-(L.tail:Int))<(C:Int):=(by omega);have G:=yh t;clear E K mY t;go_in;go_wp2_with fail;rw [r.o];refine bE d λw1 aq=>?_;have iA:=gT.later q.o aq;have u:w1.cell? (aD w.heap.size 0)=some (pQ l):=aL iA.1;have v:w1.cell? ⟨w.heap.size+1,0,none⟩=some (iV 0):=aL iA.2;have y:=ae iA.2 0;have cm:=m.o.later aq;have bK:=c.o.trans (aq.mono c.o.size);have O:=cm.c7;clear d aq;go_wp2_with fail;refine((λwx=>i5 x wx z) _).mono ?_;rintro e j ⟨rfl,dw⟩;have eB:=dw.symm;subst eB;clear dw;rw [<-G.o];obtain⟨cN,H⟩:=bL bK iA;clear bK iA;go_wp2_with fail;refine(yV cm N.o).mono ?_;rintro e j ⟨rfl,aW⟩;have qC:=gT.later H.o aW;have eM:=cN.o.trans (aW.mono cN.o.size);have U:j.cell? ⟨w.heap.size+1,0,none⟩=some (iV 0):=aL qC.2;have Y:=ae qC.2 0;clear aW;obtain⟨g,f⟩:=bL (eM.setCell (p:=⟨w.heap.size+1,0,none⟩) (by show _<=w.heap.size+1;omega) (iV 40)) (show (j.setCell ⟨w.heap.size+1,0,none⟩ (.int .i64 40)).cell? ⟨w.heap.size+1,0,none⟩=some (iV 40) from qC.err _);clear eM qC cm;go_wp2_with fail;exact bodyPost_ret (fR rfl _ _ (w.heap.size+1) _ rfl f.o) rfl ⟨rfl,g.o⟩
     .exact absurd (aA K) b
 .simp only [aE (λh=>i h:¬L.bd S=0)];have W:(L.bd S == 0)=false:=by rw [eG];exact i
  clear b i;go_in;go_wp2_with fail;rw [r.o];refine bE d λw1 aq=>?_;have iA:=gT.later q.o aq;have u:w1.cell? (aD w.heap.size 0)=some (pQ l):=aL iA.1;have v:w1.cell? ⟨w.heap.size+1,0,none⟩=some (iV 0):=aL iA.2;have y:=ae iA.2 0;have cm:=m.o.later aq;obtain⟨g,f⟩:=bL ((c.o.trans (aq.mono c.o.size)).setCell (p:=⟨w.heap.size+1,0,none⟩) (by show _<=w.heap.size+1;omega) (iV (L.bd S))) (show (w1.setCell ⟨w.heap.size+1,0,none⟩ (.int .i64 (L.bd S))).cell? ⟨w.heap.size+1,0,none⟩=some (iV (L.bd S)) from iA.err _);clear iA cm;go_wp2_with fail;exact bodyPost_ret (fR rfl _ _ (w.heap.size+1) _ rfl f.o) rfl ⟨rfl,g.o⟩
end
end
end Go.Proofs.YtenlkgicpllbhaaGreat
