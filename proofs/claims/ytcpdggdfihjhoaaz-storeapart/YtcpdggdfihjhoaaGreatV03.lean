import Derived.Test.YtcpdggdfihjhoaaGreatV01
import Derived.Test.YtcpdggdfihjhoaaGreatV02
import Derived.Shelf.Sort.AssemblyIn
import Derived.Sort.EveryDepth
import Derived.Sort.OwnSortedInts
import Derived.ProofKit
import Derived.OpenShut
import Derived.ShutString
import Derived.ChangeOld
import Derived.SizedLaws
import Derived.Deep.Slices
import Derived.Deep.Light
import Derived.Deep.MidRow
import Derived.Deep.Quiet
import Derived.BigQuiet
import Derived.OwnWalk
import Derived.RegionTactic
import Derived.BigRegion
import Derived.Deep.RegionLaw
import Derived.ChangeKeysEq
import Derived.ArgAppend
import Derived.Laws.AppendOwnNone
import Derived.Deep.RegionHeld3
import Derived.RangeFuncNested
import Derived.RangeFuncBound
import Derived.RangeFuncCalls
import Derived.RangeFuncLeaves
import Derived.Shelf.Abstract
import Derived.Shelf.RegionOpen
import Derived.OwnWalkIn
import Derived.TacticsInMore
import Derived.LoopNIn
import Derived.LoopIn
import Derived.Deep.AppendLies
import Derived.OrdersHeld
import Derived.Deep.RegionHeld
set_option maxRecDepth 20000
set_option maxHeartbeats 8000000
set_option linter.all false
namespace Go.Proofs.YtcpdggdfihjhoaaGreat
open Go.Proofs.Tryz
open Go.RowKit Go.Maps
variable {args cur:Array Value} {S:DS} {rs:List (List Int)} {body d data l l':List Int} {vs xs:List Value} {B' B0 E P c cap Ru g g' h i id j k n n₀ p s:Nat} {F G X X':Nat->Prop} {a:Option Addr} {T e ty:TypeId} {v vR vr x y z:Value} {W W' W'' w w' w1 w2 w3:World} {C:World->Prop}
section
open Go.RowKit Go.Maps Go.Shelf Go.Sort
def ww:yS:=by
 intro g b zs w f eM;have c:=f.le;have Zk:=f;obtain⟨cur,i,m,j,p⟩:=Zk;have d:(zs.map (Value.int .i64)).length=zs.length:=by simp
 rw [d] at c j;have l:=holds_of_blockI i j;refine(calls_of_every_depth λD=>AnyS.slices_Sort_int_in Tryz.lays189 D g 0 b zs w l f.lt eM).mono ?_;rintro e w' ⟨rfl,n,os,rfl⟩;have q:(zs.mergeSort λx y=>decide (x<=y)).length=zs.length:=List.length_mergeSort _;have a:=grownBy_sortedI (w:=w) (g:=g) (n:=n) (os:=os) (zs.mergeSort λx y=>decide (x<=y)).toArray;refine⟨rfl,⟨_,heap_sortedI _ i,by simp [putCells,m],?_,p⟩,⟨a.os,a.tape,a.output,a.size,λk o dM=>a.block k o (by simpa using dM)⟩⟩;rw [jF];exact take_putCellsI cur _ (by omega)
def Vp (w:World):Calls prog 202 #[.slice none 0 0,iV 0,iV 0] w λe w'=>e= .returned (.tuple #[])/\w'=w:=by
 go_in;go_wp2;refine wp_loop_rounds 1 ?_;rw [rounds_succ];go_wp2
 go_end0
 exact⟨rfl,rfl⟩
def Vq (n:Int) (w:World):Calls prog 169 #[.slice none 0 0,iV 0,iV 0,iV n] w λe w'=>e= .returned (.tuple #[])/\w'=w:=by
 go_in;go_wp2;refine wp_loop_rounds 1 ?_;rw [rounds_succ];go_wp2_with (go_at_call 202;refine(Vp _).mono ?_;rintro e w' ⟨rfl,rfl⟩);exact bodyPost_ret (results_none rfl _ _ _) rfl ⟨rfl,rfl⟩
def wF:DP:=by
 intro w;go_in;go_wp2_with (first|(go_at_call 169;refine(Vq _ _).mono ?_;rintro e w' ⟨rfl,rfl⟩)|go_in)
 go_end0
 exact⟨rfl,RowKit.Below.refl _ _⟩
end
def DS.wr (S:DS) (s:Nat) (x:Int) (n:Nat) (l:List Int):Int×DS:=
 if S.fuse=0 then (3,S) else if x<0\/(s:Int)<=x then (11,S.refuse) else if n≠512 then (2,S.refuse) else (0,(S.put x.toNat l).wrote.gv)
def DS.rd (S:DS) (s:Nat) (x:Int):Int×DS×List Int:=
 if S.fuse=0 then (3,S, []) else if x<0\/(s:Int)<=x then (11,S.refuse, []) else (0,S.read,S.now x.toNat)
def DS.fl (S:DS) (s:Nat):Int×DS:=if S.fuse=0 then (3,S) else (0,(S.flush s).gv)
def aQ.more (h:aQ w' F p s S):aQ w' (more F w w') p s S:=
 h.mono (λ_ a=> .inl a) (λk a=>by rcases a with a|a;exact h.lt k a;exact a.2)
def vp (h:aQ w F p s S) (x:Int) (a:Option Addr) (n c:Nat) (l:List Int) (m:Src w a n l) (aU:S.puts.length+1<=4000000000000):
  Calls prog 51 #[pQ p,iV x, .slice a n c] w λe w'=>e= .returned (iV (S.wr s x n l).1)/\aQ w' (more F w w') p s (S.wr s x n l).2/\aa F w w':=by
 by_cases b:S.fuse=0
 .simp only [DS.wr,b,if_true];refine(JH h x a n c b).mono ?_;rintro e w' ⟨rfl,rfl⟩;exact⟨rfl,h.more,aa.refl _ _⟩
 .by_cases d:x<0\/(s:Int)<=x
  .simp only [DS.wr,b,if_false,d,if_true];refine(FV h x a n c b d).mono ?_;rintro e w' ⟨rfl,f,g⟩;exact⟨rfl,f.more,g⟩
  .obtain⟨k,rfl⟩:∃k:Nat,x=(k:Int):=⟨x.toNat,by omega⟩;have j:k<s:=(by omega);by_cases i:n=512
   .subst i;simp only [DS.wr,b,if_false,d,ne_eq,not_true_eq_false,mx];obtain⟨y,rfl⟩:∃y,a=some y:=by
     cases a with
     |none=>have:=m.2.1 rfl;omega
     |some y=>exact⟨y,rfl⟩
    exact Qn h k j b (by omega) y c l m
   .simp only [DS.wr,b,if_false,d,ne_eq,i,not_false_eq_true,if_true];refine(DM h k a n c b j i).mono ?_;rintro e w' ⟨rfl,f,g⟩;exact⟨rfl,f.more,g⟩
def Out (lo:Nat) (w:World) (l:List Int) (v:Value):Prop:=∃a c,v= .slice a l.length c/\Src w a l.length l/\∀x,a=some x->lo<=x.block
def Out.nil (lo:Nat) (w:World):Out lo w [] (.slice none 0 0):=⟨none,0,rfl,⟨rfl,λ_=>rfl,λx a=>by cases a⟩,λx a=>by cases a⟩
def Out.row {lo:Nat} (h:ay w 5 g c (bs l)) (a:lo<=g):Out lo w l (.slice (some (aD g 0)) l.length c):=⟨_,c,rfl,h.src,λx b=>by cases b;exact a⟩
def tO (h:aQ w F p s S) (x:Int) (aU:S.puts.length+1<=4000000000000):
  Calls prog 39 #[pQ p,iV x] w λe w'=>∃v,e= .returned (.tuple #[v,iV (S.rd s x).1])/\Out w.heap.size w' (S.rd s x).2.2 v/\aQ w' F p s (S.rd s x).2.1/\aa F w w':=by
 by_cases a:S.fuse=0
 .simp only [DS.rd,a,if_true];refine(Ct h x a).mono ?_;rintro e w' ⟨rfl,rfl⟩;exact⟨_,rfl,Out.nil _ _,h,aa.refl _ _⟩
 .by_cases f:x<0\/(s:Int)<=x
  .simp only [DS.rd,a,if_false,f,if_true];refine(JD h x a f).mono ?_;rintro e w' ⟨rfl,b,d⟩;exact⟨_,rfl,Out.nil _ _,b,d⟩
  .obtain⟨k,rfl⟩:∃k:Nat,x=(k:Int):=⟨x.toNat,by omega⟩;have i:k<s:=(by omega);simp only [DS.rd,a,if_false,f,mx];refine(Mg h k a i (by omega)).mono ?_;rintro e w' ⟨g,c,rfl,j,l,b,d⟩;have:=Out.row l j;rw [bA h.ok k i] at this;exact⟨_,rfl,this,b,d⟩
def DC (h:aQ w F p s S) (aU:S.puts.length+1<=4000000000000):
  Calls prog 52 #[pQ p] w λe w'=>e= .returned (iV (S.fl s).1)/\aQ w' F p s (S.fl s).2/\aa F w w':=by
 by_cases a:S.fuse=0
 .simp only [DS.fl,a,if_true];refine(L7 h a).mono ?_;rintro e w' ⟨rfl,rfl⟩;exact⟨rfl,h,aa.refl _ _⟩
 .simp only [DS.fl,a,if_false];exact Ur h a (by omega)
def Src.kZ {B:Nat} (h:Src w a n l) (d:Below B w w') (c:∀x,a=some x->0<n->x.block<B):Src w' a n l:=
   ⟨h.1,h.2.1,λx b i e=>(World.cell?_of_block (w:=w) (by rw [kG];exact d.block _ (c x b (by omega)))).trans (h.2.2 x b i e)⟩
def ll.kZ {B:Nat} {l:List P3} (h:ll w a n l) (k:Below B w w') (j:∀x,a=some x->0<n->x.block<B):ll w' a n l:=by
 refine⟨h.1,h.2.1,λx c i m=>?_,h.2.2.2⟩;obtain⟨b,o,rfl,d,f,g⟩:=h.2.2.1 x c i m;have e:=k.block b (j _ c (by have:=h.1;omega));exact⟨b,o,rfl,(World.cell?_of_block (w:=w) (a:=(aD b _)) e).trans d,(World.cell?_of_block (w:=w) (a:=(aD b _)) e).trans f,(World.cell?_of_block (w:=w) (a:=(aD b _)) e).trans g⟩
def Out.keeps {lo:Nat} (h:Out lo w l v) (o:aa F w w') (j:∀k,F k->k<lo):Out lo w' l v:=by
 obtain⟨a,c,rfl,b,f⟩:=h;refine⟨a,c,rfl,⟨b.1,b.2.1,λx g i n=>?_⟩,f⟩;have d:=b.2.2 x g i n;have e:=World.block_lt_of_cell? _ _ d;rw [kG] at e;exact(World.cell?_of_block (w:=w) (by rw [kG];exact o.block _ e (λm=>by have:=j _ m;have:=f x g;omega))).trans d
def jk (S:DS) (s:Nat) (x:Int) (n:Nat) (l:List Int):(S.wr s x n l).2.puts.length<=S.puts.length+1:=by
 unfold DS.wr;split
 .simp
 .split
  .simp [DS.refuse]
  .split
   .simp [DS.refuse]
   .simp [DS.put,DS.wrote,DS.gv]
def yE (S:DS) (s:Nat):(S.fl s).2.puts.length<=S.puts.length+1:=by
 unfold DS.fl;split
 .simp
 .simp [DS.flush,DS.gv]
def aJ (w:World) (o:Obj):bW w (w.alloc o):=(bi _ _).alloc (bR _) _
def nJ (body:List Int):List Int:=((body.length%256:Nat):Int) :: ((body.length / 256:Nat):Int) :: (body ++ List.replicate (504-body.length) 0)
def bh (t:Int) (body:List Int):List Int:=
 t :: ((body.length%256:Nat):Int) :: ((body.length / 256:Nat):Int) :: (ow (sumOf (nJ body)) ++ (body ++ (List.replicate (504-body.length) 0 ++ [t])))
def cG (a b:Int):Nat:=if a≠0/\b≠0 then 0 else if a≠1/\b≠1 then 1 else 2
def gw (a b:Int):cG a b<=2:=by unfold cG;split <;> (try split) <;> omega
def CC (a b:Int):((cG a b:Nat):Int)≠a/\((cG a b:Nat):Int)≠b:=by
 unfold cG;by_cases h:a≠0/\b≠0
 .rw [aG h];omega
 .rw [aB h];by_cases c:a≠1/\b≠1
  .rw [aG c];omega
  .rw [aB c];omega
def oz (s:Nat):(ow s).length=4:=rfl
def DV (s:Nat):Bytes (ow s):=by
 intro x a;simp only [ow,List.mem_cons,List.not_mem_nil,or_false] at a;omega
def fx {t:Int} (h:body.length<=504):(bh t body).length=512:=by simp [bh,oz];omega
def Bytes.append {a b:List Int} (c:Bytes a) (d:Bytes b):Bytes (a ++ b):=λx e=>(List.mem_append.1 e).elim (c x) (d x)
def Bytes.cons {a:Int} {b:List Int} (c:0<=a/\a<256) (d:Bytes b):Bytes (a :: b):=λx e=>(List.mem_cons.1 e).elim (λh=>h▸c) (d x)
def Bytes.nil:Bytes []:=λ_ a=>by cases a
def Bytes.tP (n:Nat):Bytes (List.replicate n 0):=λx a=>by rw [List.eq_of_mem_replicate a];omega
def Bytes.take (h:Bytes l) (n:Nat):Bytes (l.take n):=λx a=>h x (List.mem_of_mem_take a)
def Bytes.drop (h:Bytes l) (n:Nat):Bytes (l.drop n):=λx a=>h x (List.mem_of_mem_drop a)
def Bytes.getD (h:Bytes l) (i:Nat):0<=l.getD i 0/\l.getD i 0<256:=by
 by_cases a:i<l.length
 .have:=h l[i] (List.getElem_mem a);simpa [List.getD,a] using this
 .simp [List.getD,List.getElem?_eq_none (Nat.le_of_not_lt a)]
def wG (h:Bytes body) (a:body.length<=504):Bytes (nJ body):=
   .cons (by omega) (.cons (by omega) (h.append (.tP _)))
def wH {t:Int} (h:Bytes body) (b:body.length<=504) (a:0<=t/\t<256):Bytes (bh t body):=
   .cons a (.cons (by omega) (.cons (by omega) ((DV _).append (h.append ((Bytes.tP _).append (.cons a .nil))))))
def dP (s:List Int):Nat:=(s.getD 1 0+256*s.getD 2 0).toNat
def dJ (s:List Int):List Int:=(s.drop 7).take (dP s)
def fC (s:List Int):Option (List Int):=if dP s<=504/\s.getD 0 0<=2/\bh (s.getD 0 0) (dJ s)=s then some (dJ s) else none
def CD (t:Int) (body:List Int) (h:body.length<=504):dP (bh t body)=body.length:=by
 simp [dP,bh,List.getD];omega
def JM (t:Int) (body:List Int):(bh t body).drop 7=body ++ (List.replicate (504-body.length) 0 ++ [t]):=by
 simp [bh,ow]
def JN (t:Int) (body:List Int) (h:body.length<=504):dJ (bh t body)=body:=by
 rw [dJ,CD t body h,JM];simp
def pM (t:Int) (body:List Int):(bh t body).getD 0 0=t:=rfl
def yZ (t:Int) (body:List Int) (h:body.length<=504):(bh t body).getD 511 0=t:=by
 have e:bh t body=(t :: ((body.length%256:Nat):Int) :: ((body.length / 256:Nat):Int) :: (ow (sumOf (nJ body)) ++ (body ++ List.replicate (504-body.length) 0))) ++ [t]:=by
  simp [bh]
 rw [e,List.getD,wm (by simp [oz];omega)];have:511-(t :: ((body.length%256:Nat):Int) :: ((body.length / 256:Nat):Int) :: (ow (sumOf (nJ body)) ++ (body ++ List.replicate (504-body.length) 0))).length=0:=by
  simp [oz];omega
 rw [this];rfl
def JO (t:Int) (body:List Int) (h:body.length<=504) (a:t<=2):fC (bh t body)=some body:=by
 unfold fC;rw [CD t body h,pM,JN t body h,aG ⟨h,a,rfl⟩]
def oA {s:List Int} (h:fC s=some body):dP s<=504/\s.getD 0 0<=2/\bh (s.getD 0 0) (dJ s)=s/\body=dJ s:=by
 unfold fC at h;split at h
 .next hc=>exact⟨hc.1,hc.2.1,hc.2.2,(Option.some.inj h).symm⟩
 .cases h
def lV {s:List Int} (h:dP s<=504) (a:s.length=512):(dJ s).length=dP s:=by
 simp [dJ];omega
def qU {s:List Int} (h:fC s=some body) (b:s.length=512):body.length<=504:=by
 obtain⟨a,_,_,rfl⟩:=oA h;rw [lV a b];exact a
def JP {s:List Int} (h:fC s=some body) (b:s.length=512):s.getD 511 0=s.getD 0 0:=by
 obtain⟨c,_,a,rfl⟩:=oA h;rw [<-a,yZ _ _ (qU h b),pM]
def x8 (s:List Int):List Int:=(s.drop 1).take 2 ++ (s.drop 7).take 504
def az (s:List Int):Nat×List Int:=
 match fC s with
 |none=>(0, [])
 |some body=>if 8<=body.length/\le (body.take 8)<9223372036854775808 then (le (body.take 8),body.drop 8) else (0, [])
def am (l r:List Int):Nat×Nat×List Int×Nat:=
 if l.length≠512\/r.length≠512 then (0,0, [],2) else
 if (az l).1=0/\(az r).1=0 then (0,0, [],30) else
 if (az l).1<(az r).1 then (1,(az r).1,(az r).2,0) else (0,(az l).1,(az l).2,0)
def aS (n:Nat):List Int:=(List.range 8).map (λk=>((n / 256 ^ k%256:Nat):Int))
def gy (old body:List Int):List Int×Nat:=
 if old.length≠512 then ([],2) else if 504<body.length then ([],7) else (bh (cG (old.getD 0 0) (old.getD 511 0)) body,0)
def aX (s:List Int):List Int×Nat:=
 if s.length≠512 then ([],2) else match fC s with|none=>([],30)|some b=>(b,0)
def aP (l r:List Int) (number:Int) (data:List Int):Nat×List Int×Nat:=
 if l.length≠512\/r.length≠512 then (0, [],2) else
 if number<1 then (0, [],1) else
 if 496<data.length then (0, [],7) else
 let a:=am l r
 if number<=a.2.1 then (0, [],31) else
 if a.2.2.2=0/\a.1=0 then (1,bh (cG (r.getD 0 0) (r.getD 511 0)) (aS number.toNat ++ data),0)
 else (0,bh (cG (l.getD 0 0) (l.getD 511 0)) (aS number.toNat ++ data),0)
def Vr:Nat->Nat->Bool
 |0,_=>true
 |n+1,s=>if cb s=1 then false else Vr n (cb s)
def CE:∀(n s:Nat),Vr n s=true->∀a,a<n->lg (a+1) s≠1
 |0,_,_,a,ha=>by omega
 |n+1,s,h,a,ha=>by
  unfold Vr at h;split at h
  .cases h
  .next hc=>
   cases a with
   |zero=>exact hc
   |succ a=>exact CE n (cb s) h a (by omega)
def order {a:Nat} (h0:0<a) (b:a<=4080):lg a 1≠1:=by
 have h:Vr 4080 1=true:=by decide+kernel
 have:=CE 4080 1 h (a-1) (by omega);rwa [show a-1+1=a by omega] at this
def Vs {α:Type} {o:Option α} (h:∀x,o=some x->False):o=none:=by
 cases o with
 |none=>rfl
 |some x=>exact(h x rfl).elim
def CF {m:List Int} (b:m.length=512) (h:m.getD 0 0≠m.getD 511 0):fC m=none:=
 Vs λ_ a=>h (JP a b).symm
def rJ (a b:List Int) (c:Nat):List Int:=a.take c ++ b.drop c
def F6 {a b:List Int} (d:a.length=512) (e:b.length=512) (f:c<=512):(rJ a b c).length=512:=by simp [rJ];omega
def y9 {a b:List Int} (d:a.length=512) (h0:0<c):(rJ a b c).getD 0 0=a.getD 0 0:=by
 rw [rJ,List.getD,u9 (by simp;omega),List.getElem?_take,aG h0];rfl
def CG {a b:List Int} (d:a.length=512) (e:c<512):(rJ a b c).getD 511 0=b.getD 511 0:=by
 rw [rJ,List.getD,wm (by simp;omega),List.getElem?_drop];simp only [oj,d,List.getD];rw [show c+(511-min c 512)=511 by omega]
def CH (a b:List Int):rJ a b 0=b:=by simp [rJ]
def F8 {a b:List Int} (c:a.length=512) (d:b.length=512):rJ a b 512=a:=by
 simp [rJ,nC (Nat.le_of_eq c),List.drop_eq_nil_of_le (Nat.le_of_eq d)]
def aoi {o:List Int} (b:o.length=512) {t:Int} (h0:t≠o.getD 0 0) (i:t≠o.getD 511 0) (e:body.length<=504) (d:c<=512):
    (rJ o (bh t body) c=o\/rJ o (bh t body) c=bh t body\/fC (rJ o (bh t body) c)=none)/\
    (rJ (bh t body) o c=o\/rJ (bh t body) o c=bh t body\/fC (rJ (bh t body) o c)=none):=by
 have a:=fx (t:=t) e;by_cases f:c=0
 .subst f;exact⟨.inr (.inl (CH _ _)), .inl (CH _ _)⟩
 .by_cases g:c=512
  .subst g;exact⟨.inl (F8 b a), .inr (.inl (F8 a b))⟩
  .refine⟨.inr (.inr (CF (F6 b a d) ?_)), .inr (.inr (CF (F6 a b d) ?_))⟩
   .rw [y9 b (by omega),CG b (by omega),yZ t body e];exact λh=>h0 h.symm
   .rw [y9 a (by omega),CG a (by omega),pM];exact i
def CI (n:Nat):aS n= [((n%256:Nat):Int),((n / 256%256:Nat):Int),((n / 65536%256:Nat):Int),((n / 16777216%256:Nat):Int),((n / 4294967296%256:Nat):Int),((n / 1099511627776%256:Nat):Int),((n / 281474976710656%256:Nat):Int),((n / 72057594037927936%256:Nat):Int)]:=by
 simp [aS,List.range,List.range.loop]
def dQ (n:Nat):(aS n).length=8:=by simp [aS]
def iQ (n:Nat):Bytes (aS n):=by
 intro x a;obtain⟨j,_,rfl⟩:=List.mem_map.1 a;omega
def Nn (h:n<18446744073709551616):le (aS n)=n:=by
 rw [CI];simp only [le,mx];omega
def DW {t:Int} (c:t<=2) (b:n<9223372036854775808) (hd:data.length<=496):az (bh t (aS n ++ data))=(n,data):=by
 have a:=dQ n;unfold az;rw [JO _ _ (by simp [a];omega) c];simp only [List.take_left' a,List.drop_left' a,Nn (show n<18446744073709551616 by omega)];rw [aG ⟨by simp [a],b⟩]
def za (l r:List Int) (slot:Nat) (s:List Int):List Int×List Int:=if slot=0 then (s,r) else (l,s)
def tQ {r:List Int} (j:l.length=512) (k:r.length=512) (d:n<9223372036854775808) (g:1<=n) (hd:data.length<=496) (ve:(am l r).2.1<n) {t:Int} (f:t<=2) (a:Nat)
    (b:a=if (am l r).2.2.2=0/\(am l r).1=0 then 1 else 0):
  am (za l r a (bh t (aS n ++ data))).1 (za l r a (bh t (aS n ++ data))).2=(a,n,data,0):=by
 have c:=DW f d hd;have i:(bh t (aS n ++ data)).length=512:=fx (by simp [dQ];omega);generalize bh t (aS n ++ data)=s at*;have e:am l r=if (az l).1=0/\(az r).1=0 then (0,0, [],30) else if (az l).1<(az r).1 then (1,(az r).1,(az r).2,0) else (0,(az l).1,(az l).2,0):=by
  unfold am;rw [aB (by omega)]
 rw [e] at b ve;by_cases z:(az l).1=0/\(az r).1=0
 .rw [aG z] at b ve;have:a=0:=by rw [b];rfl
  subst this;simp only [za,if_true,am];rw [aB (by omega),c,aB (by simp;omega),aB (by simp;omega)]
 .rw [aB z] at b ve;by_cases q:(az l).1<(az r).1
  .rw [aG q] at b ve;have:a=0:=(by rw [b];rfl);subst this;simp only [za,if_true,am];rw [aB (by omega),c,aB (by simp;omega),aB (by simp at ve⊢;omega)]
  .rw [aB q] at b ve;have:a=1:=(by rw [b];rfl);subst this;have Zl:¬(1:Nat)=0:=(by omega);simp only [za,aB Zl,am];rw [aB (by omega),c,aB (by simp;omega),aG (by simp at ve⊢;omega)]
section
open Go.ChangeShapes Go.WideShapes Go.ChangeAt Go.RowKit Go.Deep
def QB:ownKnob prog.godebug=none:=by kernel_rfl
def laidOut:laidOutB prog=true:=by kernel_rfl
def Vt:prog.bytesOf 5=1:=by kernel_rfl
def Vu:prog.cellsOf 5=1:=by kernel_rfl
def fD:prog.cellsOf 3=1:=by kernel_rfl
def zb:prog.cellsOf 36=1:=by kernel_rfl
def acI {n:Int} (h:(Lit.int .u8 n).wf=true):0<=n/\n<256:=by
 have:=h;simp [Lit.wf,IntKind.min,IntKind.max,IntKind.bits,IntKind.signed] at this;omega
section
variable {H:Type} {enc:TypeId×Value->H} {W:World} {base:Nat} {spare:Nat->Bool} {held:Bool}
def pN {P:Program} {e:TypeId} {n:Nat}:∀{a:List (DataW H)} {d:DataW H},d∈a->n∈d.weights P e->n∈DataW.weightsAll P e a
 |d :: r,d',hd,hn=>by
  rw [DataW.weightsAll];rcases List.mem_cons.1 hd with rfl|h
  .exact List.mem_append_left _ hn
  .exact List.mem_append_right _ (pN h hn)
def XM {P:Program} {b c d:Field} {cs:List Value} {x:DataW H×List MemPlace} (r:P.underlying e=some (.struct #[b,c,d])) (q:P.cellsOf e=3) (s:b.offset=0) (t:c.offset=1) (u:d.offset=2)
    (m:P.cellsOf b.type=1) (o:P.cellsOf c.type=1) (p:P.cellsOf d.type=1) (h:DataW.trod enc P W base spare held n e cs=some x):
  ∃v0 v1 v2 y0 y1 y2 k,cs= [v0,v1,v2]/\x.1= .agg [y0.1,y1.1,y2.1]/\DataW.trod enc P W base spare held k b.type [v0]=some y0/\DataW.trod enc P W base spare held k c.type [v1]=some y1/\DataW.trod enc P W base spare held k d.type [v2]=some y2:=by
 obtain⟨xs,k,_,g,a,Jf,f⟩:=DataW.trod_struct r h;rw [q] at a
 match xs,Jf,cs,a with
 | [y0,y1,y2],_, [v0,v1,v2],_=>
  have i:=f 0 b rfl;have j:=f 1 c rfl;have l:=f 2 d rfl;simp [s,t,u,m,o,p] at i j l;exact⟨v0,v1,v2,y0,y1,y2,k,rfl,by rw [g];rfl,i,j,l⟩
def JQ {b:Nat} {d:DataW H} {r:List MemPlace} (h:DataW.trod enc prog W base spare held b 36 [v]=some (d,r)) (o:∀n∈d.weights prog 36,n<=reachBytes):
  ∃a n c l,v= .slice a n c/\Src W a n l/\Bytes l/\n<=c/\n<=140737488355328:=by
 rcases open_ints underlying36 underlying5 Vu h with ⟨mv,_⟩|⟨x,l,c,zs,mv,_,m,s,g,hd,cU,e⟩
 .simp only [List.cons.injEq,and_true] at mv;exact⟨none,0,0, [],mv,⟨rfl,λ_=>rfl,λx f=>by cases f⟩,(λx f=>by cases f),bR _,dL _⟩
 .simp only [List.cons.injEq,and_true] at mv;simp only [Prod.mk.injEq] at hd;obtain⟨rfl,rfl⟩:=hd;have q:l<=zs.length:=by rw [g];split <;> omega
  have j:=o ((((lits IntKind.u8 (zs.take l):List (DataW H))).length+((lits IntKind.u8 (zs.drop l):List (DataW H))).length)*prog.bytesOf 5) (by simp [DataW.weights,underlying36]);rw [Vt] at j;simp only [lits,jF,oj,List.length_drop,reachBytes] at j;refine⟨some x,l,c,zs.take l,mv,⟨by simp;omega,(λh=>by cases h),λy p i k=>?_⟩,λz g=>acI (e z (List.mem_of_mem_take g)),m,by omega⟩;cases p;rw [cU i (by omega)];simp [List.getD,k]
end
end
def x9:List Value:=(List.range 16).map (λj=>Value.int .u32 ((lg 4 j:Nat):Int))
def DX:x9.length=16:=by simp [x9]
def Vv:∀v∈x9,v.oneCell'=true:=by
 intro v a;obtain⟨j,_,rfl⟩:=List.mem_map.1 a;rfl
def DY:(prog.info? 209).map (·.size)=some x9.length:=by rw [DX];kernel_rfl
def ahL (r:Nat) (a:r<4294967296):bits .and .u32 (r:Int) 1=((r%2:Nat):Int):=by
 have:=u32_and_nat r 1 a (by omega);rw [Nat.and_one_is_mod] at this;exact this
def Vw (r:Nat) (c:r<4294967296):bits .xor .u32 ((r:Int) / 2) (2197175160*((r:Int)%2))=((cb r:Nat):Int):=by
 have a:((r:Int) / 2)=((r / 2:Nat):Int):=by omega
 have b:(2197175160*((r:Int)%2))=(((if r%2=1 then 2197175160 else 0):Nat):Int):=by
  split <;> omega
 rw [a,b,u32_xor_nat _ _ (by omega) (by split <;> omega)];rfl
def aa.setCells {F:Nat->Prop} {b:Nat} (a:F b):∀(vs:List Value) (o:Nat) (w:World),aa F w (w.setCells b o vs)
 | [],_,w=>aa.refl F w
 |v :: r,o,w=>(aa.setCell (p:=⟨b,o,none⟩) w a v).trans (aa.setCells a r (o+1) _) (λ_ h=> .inl h)
def mW {b:Nat}:∀(vs:List Value) (o:Nat) (w:World),(w.setCells b o vs).heap.size=w.heap.size
 | [],_,_=>rfl
 |v :: r,o,w=>by simp only [World.setCells];rw [mW r];simp [World.setCell]
def gz {P:Program} {b:Func} {p:Tmp} (h:b.results= #[.cell p ty]) (a:Array Value) (w:World) (g:Nat) (cs:List Value) (d:TypeDesc)
    (f:a.getD p undef=pQ g) (c:w.rangeAt g 0 cs) (i:P.underlying ty=some d) (hd:d.isRow=true) (e:(P.info? ty).map (·.size)=some cs.length):
    (results b a).run P w= .ok (.agg cs.toArray) w:=by
 have Zm:a[p]?.getD undef=pQ g:=by simpa using f
 simp [results,h,Zm,asAddr,run_loadVar_mid w g 0 ty cs d c i hd e]
def No (w wr:World) (k:Nat):Prop:=
 bW w wr/\wr.heap.size=w.heap.size+2/\(∃cur:Array Value,cur.size=16/\wr.heap[w.heap.size]? =some (.cells cur 209 (0,0)))/\
  ∃cs:List Int,cs.length=16/\wr.heap[w.heap.size+1]? =some (.cells (cs.map (Value.int .u32)).toArray 209 (0,0))/\∀j,j<k->cs[j]? =some ((lg 4 j:Nat):Int)
def No.next {wr:World} (h:No w wr k) (i:k<16):(∃v,wr.cell? ⟨w.heap.size+1,k,none⟩=some (.int .u32 v))/\wr.frozen? ⟨w.heap.size+1,k,none⟩=false/\
  No w (wr.setCell ⟨w.heap.size+1,k,none⟩ (.int .u32 ((lg 4 k:Nat):Int))) (k+1):=by
 obtain⟨b,g,⟨cur,c,a⟩,cs,f,aV,mv⟩:=h;have ox:k<cs.length:=by omega
 refine⟨⟨cs[k],aj aV (by simp [ox])⟩,ae aV k,?_,?_,⟨cur,c,?_⟩,cs.set k ((lg 4 k:Nat):Int),by simp [f],?_,?_⟩
 .exact b.trans ((aa.setCell (F:=λj=>j=w.heap.size+1) (p:=⟨w.heap.size+1,k,none⟩) wr rfl _).below (λj d=>by omega) (by omega))
 .simpa [World.setCell] using g
 .rw [Below.heap_setCell _ _ _ _ (by simp)];exact a
 .rw [heap_setCell_same _ _ _ _ _ _ aV];congr 2;apply Array.ext';simp [List.map_set]
 .intro j d;by_cases e:j=k
  .subst e;simp [ox]
  .rw [su (by omega)];exact mv j (by omega)
def No.done {wr:World} (h:No w wr 16):wr.rangeAt (w.heap.size+1) 0 x9/\wr.there w.heap.size 0 x9.length:=by
 obtain⟨d,g,⟨cur,e,a⟩,cs,f,aV,mv⟩:=h;constructor
 .intro j v c;have b:j<16:=by
   have:=(mS.1 c).1;rwa [DX] at this
  rw [Nat.zero_add];refine aj aV ?_;rw [<-c];simp [x9,mv j b,b]
 .intro j b;rw [DX] at b;rw [Nat.zero_add];exact⟨by rw [aj a (j:=j) (u:=cur[j]'(by omega)) (by simp [show j<cur.size by omega])];rfl,ae a j⟩
def JR (w:World):
  Calls prog 179 #[] w λe w'=>e= .returned (.agg x9.toArray)/\bW w w':=by
 go_in;go_wp2;go_loopw [5] (λi wr=>∃k:Nat,k<=16/\i=iV k/\No w wr k) (λi _=>16-(intOf i).toNat);case atStart=>
  refine⟨0,dL _,rfl,Below.alloc (Below.alloc (bi _ _) (bR _) _) (by simp) _,by simp,⟨_,?_,heap_alloc2_old _ _ _⟩,List.replicate 16 0,by simp,?_,λj b=>by omega⟩
  .rfl
  .rw [heap_alloc2_new];rfl
 case round=>
  obtain⟨k,f,rfl,QC⟩:=hrel;by_cases bq:k<16
  .have cC:(k:Int)<16:=(by omega);obtain⟨⟨l,c⟩,d,acJ⟩:=QC.next bq;go_wp2;go_loopw [3,10] (λr i wx=>∃m:Nat,m<=4/\i=iV m/\wx=wr/\r= .int .u32 ((lg m k:Nat):Int)) (λ_ i _=>4-(intOf i).toNat);case atStart=>exact⟨0,dL _,rfl,rfl,rfl⟩
   case round=>
    obtain⟨m,g,rfl,rfl,rfl⟩:=hrel;have a:lg m k<4294967296:=vg m (by omega);by_cases ym:m<4
    .have BQ:(m:Int)<4:=(by omega);have ar:=ahL (lg m k) a;have bz:cb (lg m k)=lg (m+1) k:=(by rw [tG];rfl);go_wp2;go_roundw;case rel=>exact⟨m+1,by omega,by go_num,trivial,by rw [<-bz,<-(Vw (lg m k) a)]⟩
     case measure=>simp [intOf];omega
    .have BQ:¬(m:Int)<4:=(by omega);have Zn:m=4:=(by omega);subst Zn;go_wp2;go_roundw;case rel=>exact⟨k+1,by omega,by go_num,acJ⟩
     case measure=>simp [intOf];omega
  .have cC:¬(k:Int)<16:=(by omega);have ahM:k=16:=(by omega);subst ahM;obtain⟨Bu,eh⟩:=QC.done;have iR:=QC.1;have bX:=all_oneCell_toArray Vv;go_wp2_with (first|refine wpList_load_mid rfl 209 _ rfl (w.heap.size+1) 0 rfl x9 _ Bu underlying209 rfl DY ?_|refine wpList_store_mid rfl 209 _ _ rfl w.heap.size 0 x9.toArray rfl rfl ?h1 ?h2 bX ?_);case h2=>exact Option.map_eq_some_iff.1 DY
   exact bodyPost_ret (gz (P:=prog) rfl _ _ w.heap.size x9 _ rfl (World.rangeAt_setCells_same wr w.heap.size 0 x9 eh) underlying209 rfl DY) rfl ⟨rfl,iR.trans ((aa.setCells (F:=λj=>j=w.heap.size) rfl x9 0 wr).below (λj b=>by omega) iR.size)⟩
def QD (a:w.heap[g]? =some (.cells x9.toArray 209 (0,0))) (i:Nat) (b:i<16):w.cell? (aD g i)=some (.int .u32 ((lg 4 i:Nat):Int)):=
 aj a (by simp [x9,b])
def XN (r:Nat) (a:r<4294967296):bits .and .u32 (r:Int) 15=((r%16:Nat):Int):=by
 have:=u32_and_nat r 15 a (by omega);rw [show (15:Nat)=2 ^ 4-1 from rfl,Nat.and_two_pow_sub_one_eq_mod] at this;exact this
def F9 (r:Nat) (b:r<4294967296):bits .xor .u32 ((r:Int) / 16) ((lg 4 (r%16):Nat):Int)=((lg 4 r:Nat):Int):=by
 have a:((r:Int) / 16)=((r / 16:Nat):Int):=by omega
 rw [a,u32_xor_nat _ _ (by omega) (vg 4 (by omega)),<-Vc]
def Ga (b o n c:Nat) (l:List Int) (w:World) (d:Bytes l) (F:l.length=n) (G:n<=140737488355328) (p:∀i,i<n->w.cell? ⟨b,o+i,none⟩=some (.int .u8 (l.getD i 0))):
  Calls prog 178 #[.agg x9.toArray, .int .u32 4294967295, .slice (some (aD b o)) n c] w λe w'=>e= .returned (.int .u32 ((nw 4294967295 l:Nat):Int))/\bW w w':=by
 go_in;go_wp2;go_loopw [1,11] (λr i wr=>∃k:Nat,k<=n/\i=iV k/\wr=w.alloc (.cells x9.toArray 209)/\r= .int .u32 ((nw 4294967295 (l.take k):Nat):Int)) (λ_ i _=>n-(intOf i).toNat);case atStart=>exact⟨0,dL _,rfl,rfl,by simp [tH]⟩
 case round=>
  obtain⟨k,E,rfl,rfl,rfl⟩:=hrel;by_cases bq:k<n
  .have cC:(k:Int)<(n:Int):=(by omega);have j:(w.alloc (.cells x9.toArray 209)).cell? ⟨b,o+k,none⟩=some (.int .u8 (l.getD k 0)):=Lib.cell?_alloc_some _ (p k bq);have acK:(w.alloc (.cells x9.toArray 209)).heap[w.heap.size]? =some (.cells x9.toArray 209 (0,0)):=heap_alloc_new _ _;have ox:k<l.length:=(by omega);obtain⟨x,f,jL⟩:∃x:Nat,l.getD k 0=(x:Int)/\x<256:=by
    have:=d l[k] (List.getElem_mem ox);refine⟨(l.getD k 0).toNat,?_,?_⟩<;> simp [List.getD,ox] <;> omega
   have pO:Bytes (l.take k):=λy s=>d y (List.mem_of_mem_take s);have m:nw 4294967295 (l.take k)<4294967296:=sq (by omega) pO;have i7:nw 4294967295 (l.take (k+1))=lg 8 (nw 4294967295 (l.take k) ^^^ x):=by
    rw [List.take_succ_eq_append_getElem ox,yG _ _ pO];congr 2;have:l.getD k 0=l[k]:=(by simp [List.getD,ox]);rw [<-this,f];simp
   rw [f] at j;generalize D:nw 4294967295 (l.take k)=R at*;have a:R ^^^ x<4294967296:=by
    have:R ^^^ x<2 ^ 32:=Nat.xor_lt_two_pow (by omega) (by omega);omega
   have t:bits .xor .u32 (R:Int) (x:Int)=((R ^^^ x:Nat):Int):=u32_xor_nat _ _ m (by omega);have H:=QD acK ((R ^^^ x)%16) (by omega);have u:=XN (R ^^^ x) a;have v:=F9 (R ^^^ x) a;have qT:=vg 4 a;have I:=QD acK (lg 4 (R ^^^ x)%16) (by omega);have z:=XN (lg 4 (R ^^^ x)) qT;have A:=F9 (lg 4 (R ^^^ x)) qT;have C:lg 4 (lg 4 (R ^^^ x))=lg 8 (R ^^^ x):=(tG 4 4 _).symm;have q:IntKind.u32.wrap (x:Int)=(x:Int):=(by rw [IntKind.wrap_u32];omega);go_wp2;go_roundw;case rel=>exact⟨k+1,by omega,by go_num,trivial,by rw [i7]⟩
   case measure=>simp [intOf];omega
  .have cC:¬(k:Int)<(n:Int):=(by omega);have UA:l.take k=l:=nC (by omega);have g:(bW w (w.alloc (.cells x9.toArray 209))):=(bi _ w).alloc (bR _) _;rw [UA] at*;go_wp2;go_ret;exact⟨rfl,g⟩
def DZ (a:Option Addr) (c:Nat) (w:World):
  Calls prog 178 #[.agg x9.toArray, .int .u32 4294967295, .slice a 0 c] w λe w'=>e= .returned (.int .u32 ((nw 4294967295 []:Nat):Int))/\bW w w':=by
 have b:(bW w (w.alloc (.cells x9.toArray 209))):=(bi _ w).alloc (bR _) _;rw [tH];go_in;go_wp2;refine wp_loop_rounds 1 ?_;rw [rounds_succ];go_wp2;go_ret;exact⟨rfl,b⟩
def Gb (a:Option Addr) (n c:Nat) (l:List Int) (w:World) (f:Bytes l) (g:n<=140737488355328) (d:Src w a n l):
  Calls prog 178 #[.agg x9.toArray, .int .u32 4294967295, .slice a n c] w λe w'=>e= .returned (.int .u32 ((nw 4294967295 l:Nat):Int))/\bW w w':=by
 by_cases h0:n=0
 .subst h0;have:l= []:=yH d.1;subst this;exact DZ a c w
 .cases a with
  |none=>exact absurd (d.2.1 rfl) h0
  |some x=>
   obtain⟨b,o,rfl,k⟩:=d.spot (by omega);exact Ga b o n c l w f d.1 g k
def QE (r:Nat) (a:r<4294967296):bits .xor .u32 IntKind.u32.max (r:Int)=((r ^^^ 4294967295:Nat):Int):=by
 have e:IntKind.u32.max=((4294967295:Nat):Int):=by decide
 rw [e,u32_xor_nat _ _ (by omega) a,Nat.xor_comm]
def yn (a:Option Addr) (n c:Nat) (l:List Int) (w:World) (b:Bytes l) (d:n<=140737488355328) (f:Src w a n l):
  Calls prog 146 #[.slice a n c] w λe w'=>e= .returned (iV ((sumOf l:Nat):Int))/\bW w w':=by
 have Vx:=QE _ (sq (r:=4294967295) (by omega) b);have pP:nw 4294967295 l ^^^ 4294967295<4294967296:=nB b;have g:wrap64 ((nw 4294967295 l ^^^ 4294967295:Nat):Int)=((nw 4294967295 l ^^^ 4294967295:Nat):Int):=by unfold wrap64;omega
 unfold sumOf;go_in;go_wp2_with fail;refine(JR w).mono ?_;rintro e w1 ⟨rfl,ar⟩;go_wp2_with fail;refine(Gb a n c l w1 b d (f.later ar)).mono ?_;rintro e i ⟨rfl,bd⟩;go_wp2;go_ret;exact⟨rfl,ar.trans (bd.mono ar.size)⟩
structure pR (w:World) where
 to:World
 h:bW w to
def ai {B:Nat} {a:World} (h:Below B a w):Below B a w.drew:=⟨h.os,h.tape,h.output,h.size,h.block⟩
theorem pR.some (w:World):Nonempty (pR w):=⟨⟨w,bi _ _⟩⟩
def xD {P:Program} {Q:Exit->Act->World->Prop} {a:Act} {l:List Oper} (d:P.follows .mixedOrders=true) (c:Region.lexB .any l.toArray=true)
    (h:wpQuiet P l.toArray (λw'=>∃q:pR w,w'=q.to) (λb=>∀w',(∃q:pR w,w'=q.to)->Q .normal b w') l a):(Code.region id l.toArray true).wp P Q a w:=
 wp_region_quiet (C:=λw'=>∃q:pR w,w'=q.to) d c ⟨⟨w.drew,ai (bi _ _)⟩,rfl⟩ (by simpa using h)
def Calls.QF {P:Program} {f:FuncId} {q:pR w}
    (h:Calls P f args q.to λe w'=>e= .returned v/\Below q.to.heap.size q.to w'):Calls P f args q.to λe BI=>e= .returned v/\∃q':pR w,BI=q'.to:=
 h.mono λ_ w' ⟨a,b⟩=>⟨a,⟨w',q.h.trans (b.mono q.h.size)⟩,rfl⟩
def Own (w:World) (B:Nat) (v:Value) (l:List Int):Prop:=w.ownsRow B 5 1 v l.length (bs l)
def Own.nil (w:World) (B:Nat):Own w B (.slice none 0 0) []:=⟨by simp, .inl ⟨rfl,rfl⟩⟩
def Own.src {B:Nat} (h:Own w B v l):∃a c,v= .slice a l.length c/\Src w a l.length l/\l.length<=c/\(∀x,a=some x->B<=x.block/\x.off=0):=by
 by_cases f:v= .slice none 0 0
 .subst f;have h0:l.length=0:=by
   obtain⟨_,⟨_,j⟩|⟨g,c,cur,e,_⟩⟩:=h
   .exact j
   .cases e
  obtain rfl:=yH h0;exact⟨none,0,rfl,⟨rfl,λ_=>rfl,λx b=>by cases b⟩,bR _,λx b=>by cases b⟩
 .obtain⟨g,c,rfl,i,d,_⟩:=ay.fg h f;refine⟨some (aD g 0),c,rfl,d.src,?_,λx b=>by cases b;exact⟨i,rfl⟩⟩;have:=d.le;simpa [bs] using this
def Own.row {B:Nat} (h:Own w B (.slice a n c) l) (h0:0<l.length):∃g,a=some (aD g 0)/\n=l.length/\B<=g/\ay w 5 g c (bs l):=by
 obtain⟨g,c',e,b,d,_⟩:=ay.fg h (by
  intro e;cases e;obtain⟨_,⟨_,f⟩|⟨g,c,cur,e,_⟩⟩:=h
  .omega
  .cases e)
 cases e;exact⟨g,rfl,rfl,b,d⟩
def Own.later {B:Nat} (h:Own w B v l) (i:bW w w'):Own w' B v l:=by
 by_cases d:v= .slice none 0 0
 .subst d;obtain⟨f,⟨_,o⟩|⟨g,c,cur,e,_⟩⟩:=h
  .exact⟨f, .inl ⟨rfl,o⟩⟩
  .cases e
 .obtain⟨g,c,rfl,k,a,p⟩:=ay.fg h d;have BR:=a.agree (i.block g a.lt);have m:=BR.le;obtain⟨cur,eI,j,b,n⟩:=BR;have UB:(bs l).length=l.length:=by simp [bs]
  exact⟨by simp [bs], .inr ⟨g,c,cur,rfl,k,eI,by omega,n,by simpa using j,by rw [UB] at b;simpa using b⟩⟩
def Own.down {B:Nat} (h:Own w B v l) (f:B'<=B):Own w B' v l:=by
 obtain⟨a,b|⟨g,c,cur,e,i,d⟩⟩:=h
 .exact⟨a, .inl b⟩
 .exact⟨a, .inr ⟨g,c,cur,e,by omega,d⟩⟩
def iS (a b:List Int):bs (a ++ b)=bs a ++ bs b:=List.map_append
def Vy (a:List Int) (x:Int):bs a ++ [.int .u8 x]=bs (a ++ [x]):=by rw [iS];rfl
def kf (l:List Int) (k:Nat) (h:k<l.length):l.take k ++ [l.getD k 0]=l.take (k+1):=by
 rw [List.take_succ_eq_append_getElem h];simp [List.getD,h]
def D0 (h:l.take k=l'.take k) (a:k<l.length) (b:k<l'.length) (e:l.getD k 0=l'.getD k 0):l.take (k+1)=l'.take (k+1):=by
 rw [List.take_succ_eq_append_getElem a,List.take_succ_eq_append_getElem b,h];simp [List.getD,a,b] at e;rw [e]
def JS (e:l.getD k 0≠l'.getD k 0):l≠l':=λh=>e (by rw [h])
def D1 {B:Nat} {m:List Int} (h:w.ownsRow B 5 1 v k (bs l)) (a:m.length=k) (e:m=l):Own w B v m:=by
 subst e;subst a;exact h
abbrev kJ (p:Nat) (f n:Int):Value:= .agg #[pQ p,iV f,iV n]
def Gc (p:Nat) (f n:Int) (w:World) (a:0<=f) (wI:f<=100000) (b:0<=n) (lJ:n<=100000):
  Calls prog 147 #[kJ p f n] w λe w'=>e= .returned (iV (f+2+n))/\bW w w':=by
 go_in;go_wp2;go_ret;exact⟨rfl,(bi w.heap.size w).alloc (bR _) (.cells #[.pointer (some ⟨p,0,none⟩), .int .i64 f, .int .i64 n] 144)⟩
def Mk (p:Nat) (f n x:Int) (w:World) (g:0<=f) (wI:f<=100000) (i:1<=n) (lJ:n<=100000) (a:0<=x):
  Calls prog 191 #[kJ p f n,iV x] w λe w'=>e= .returned (iV (f+2+x%n))/\bW w w':=by
 have b:0<=x%n:=Int.emod_nonneg _ (by omega);have c:x%n<n:=Int.emod_lt_of_pos _ (by omega);have d:x.tmod n=x%n:=yI a;generalize x%n=y at*;go_in;go_wp2
 go_region
 go_wp2;go_ret;exact⟨rfl,ai ((bi w.heap.size w).alloc (bR _) (.cells #[.pointer (some ⟨p,0,none⟩), .int .i64 f, .int .i64 n] 144))⟩
def cy (S:DS) (s:Nat) (f n:Int):Int:=
 if S.fuse=0 then 3 else if f<0\/(s:Int)<=f then 11 else if n<18\/256<n then 1 else if (s:Int)<f+2+n then 11 else 0
def aQ.boxed (h:aQ w F p s S) (o:Obj):aQ (w.alloc o) F p s S:=
 h.aw (aa.ah (λ_=>False) ((bi w.heap.size w).alloc (bR _) o)) (λ_ _ h=>h)
def Gd (h:aQ w F p s S) (f n:Int) (v:s<=2048):
  Calls prog 103 #[kJ p f n] w λe w'=>e= .returned (iV (cy S s f n))/\bW w w':=by
 have c:=(bi w.heap.size w).alloc (bR _) (.cells #[.pointer (some ⟨p,0,none⟩), .int .i64 f, .int .i64 n] 144);have d:=yN (h.boxed (.cells #[.pointer (some ⟨p,0,none⟩), .int .i64 f, .int .i64 n] 144));have b:=ix (h.boxed (.cells #[.pointer (some ⟨p,0,none⟩), .int .i64 f, .int .i64 n] 144));have i:=Gc p f n (w.alloc (.cells #[.pointer (some ⟨p,0,none⟩), .int .i64 f, .int .i64 n] 144));unfold cy;go_in;by_cases g:S.fuse=0
 .rw [show (S.fuse == 0)=true by simp [g]] at b;rw [aG g];go_wp2_with (first|(go_at_call 47;refine d.mono ?_;rintro e w' ⟨rfl,a⟩;subst a)|(go_at_call 35;refine b.mono ?_;rintro e w' ⟨rfl,a⟩;subst a));go_ret;exact⟨rfl,c⟩
 .rw [show (S.fuse == 0)=false by simp [g]] at b;rw [aB g];by_cases j:f<0\/(s:Int)<=f
  .rw [aG j];by_cases o:f<0
   .clear j;go_wp2_with (first|(go_at_call 47;refine d.mono ?_;rintro e w' ⟨rfl,a⟩;subst a)|(go_at_call 35;refine b.mono ?_;rintro e w' ⟨rfl,a⟩;subst a));go_ret;exact⟨rfl,c⟩
   .have q:(s:Int)<=f:=(by omega);go_wp2_with (first|(go_at_call 47;refine d.mono ?_;rintro e w' ⟨rfl,a⟩;subst a)|(go_at_call 35;refine b.mono ?_;rintro e w' ⟨rfl,a⟩;subst a));go_ret;exact⟨rfl,c⟩
  .rw [aB j];have o:¬f<0:=(by omega);have q:¬(s:Int)<=f:=(by omega);by_cases k:n<18\/256<n
   .rw [aG k];by_cases r:n<18
    .clear k;go_wp2_with (first|(go_at_call 47;refine d.mono ?_;rintro e w' ⟨rfl,a⟩;subst a)|(go_at_call 35;refine b.mono ?_;rintro e w' ⟨rfl,a⟩;subst a));go_ret;exact⟨rfl,c⟩
    .have t:256<n:=(by omega);go_wp2_with (first|(go_at_call 47;refine d.mono ?_;rintro e w' ⟨rfl,a⟩;subst a)|(go_at_call 35;refine b.mono ?_;rintro e w' ⟨rfl,a⟩;subst a));go_ret;exact⟨rfl,c⟩
   .rw [aB k];have r:¬n<18:=(by omega);have t:¬256<n:=(by omega);have i:=i (by omega) (by omega) (by omega) (by omega);by_cases m:(s:Int)<f+2+n
    .rw [aG m];go_wp2_with (first|(go_at_call 47;refine d.mono ?_;rintro e w' ⟨rfl,a⟩;subst a)|(go_at_call 35;refine b.mono ?_;rintro e w' ⟨rfl,a⟩;subst a));refine bJ i λu l=>?_;go_wp2;go_ret;exact⟨rfl,c.trans (l.mono c.size)⟩
    .rw [aB m];go_wp2_with (first|(go_at_call 47;refine d.mono ?_;rintro e w' ⟨rfl,a⟩;subst a)|(go_at_call 35;refine b.mono ?_;rintro e w' ⟨rfl,a⟩;subst a));refine bJ i λu l=>?_;go_wp2;go_ret;exact⟨rfl,c.trans (l.mono c.size)⟩
def pS (a b:Nat) (e:a<4294967296) (f:b<4294967296):bits .xor .i64 (a:Int) (b:Int)=((a ^^^ b:Nat):Int):=by
 have g:a ^^^ b<2 ^ 32:=Nat.xor_lt_two_pow (by omega) (by omega);have c:(BitVec.ofInt 64 (a:Int)).toNat=a:=by rw [BitVec.ofInt_natCast,BitVec.toNat_ofNat];exact Nat.mod_eq_of_lt (by omega)
 have d:(BitVec.ofInt 64 (b:Int)).toNat=b:=by rw [BitVec.ofInt_natCast,BitVec.toNat_ofNat];exact Nat.mod_eq_of_lt (by omega)
 show IntKind.i64.wrap ((BitVec.ofInt 64 (a:Int) ^^^ BitVec.ofInt 64 (b:Int)).toNat:Int)=_;rw [BitVec.toNat_xor,c,d,IntKind.wrap_i64];omega
def QG (a:Nat) (d:a<4294967296):bits .and .i64 (a:Int) 1=((a%2:Nat):Int):=by
 have b:(BitVec.ofInt 64 (a:Int)).toNat=a:=by rw [BitVec.ofInt_natCast,BitVec.toNat_ofNat];exact Nat.mod_eq_of_lt (by omega)
 have c:(BitVec.ofInt 64 (1:Int)).toNat=1:=by decide
 show IntKind.i64.wrap ((BitVec.ofInt 64 (a:Int) &&& BitVec.ofInt 64 (1:Int)).toNat:Int)=_;rw [BitVec.toNat_and,b,c,IntKind.wrap_i64,Nat.and_one_is_mod];omega
def QH (b o n c:Nat) (l:List Int) (w:World) (j:Bytes l) (F:l.length=n) (H:n<=140737488355328) (q:∀i,i<n->w.cell? ⟨b,o+i,none⟩=some (.int .u8 (l.getD i 0))):
  Calls prog 238 #[.slice (some (aD b o)) n c] w λe w'=>e= .returned (iV ((sumOf l:Nat):Int))/\bW w w':=by
 have t:=yh q;clear q;unfold sumOf;go_in;go_wp2;go_loopw [3,4] (λr i wr=>∃k:Nat,k<=n/\i=iV k/\wr=w/\r=iV ((nw 4294967295 (l.take k):Nat):Int)) (λ_ i _=>n-(intOf i).toNat);case atStart=>exact⟨0,dL _,rfl,rfl,by simp [tH]⟩
 case round=>
  obtain⟨k,E,rfl,rfl,rfl⟩:=hrel;by_cases bq:k<n
  .have cC:(k:Int)<(n:Int):=(by omega);have z:=t.o k bq;have ox:k<l.length:=(by omega);obtain⟨x,p,jL⟩:∃x:Nat,l.getD k 0=(x:Int)/\x<256:=by
    have:=j l[k] (List.getElem_mem ox);refine⟨(l.getD k 0).toNat,?_,?_⟩<;> simp [List.getD,ox] <;> omega
   have pO:Bytes (l.take k):=λy C=>j y (List.mem_of_mem_take C);have d:nw 4294967295 (l.take k)<4294967296:=sq (by omega) pO;have i7:nw 4294967295 (l.take (k+1))=lg 8 (nw 4294967295 (l.take k) ^^^ x):=by
    rw [List.take_succ_eq_append_getElem ox,yG _ _ pO];congr 2;have:l.getD k 0=l[k]:=(by simp [List.getD,ox]);rw [<-this,p];simp
   have g:=yh i7;rw [p] at z;generalize v:nw 4294967295 (l.take k)=R at*;have A:R ^^^ x<4294967296:=by
    have:R ^^^ x<2 ^ 32:=Nat.xor_lt_two_pow (by omega) (by omega);omega
   have u:bits .xor .i64 (R:Int) (x:Int)=((R ^^^ x:Nat):Int):=pS _ _ d (by omega);clear i7 v pO d p;go_wp2;go_loopw [3,5] (λr i wx=>∃m:Nat,m<=8/\i=iV m/\wx=wr/\r=iV ((lg m (R ^^^ x):Nat):Int)) (λ_ i _=>8-(intOf i).toNat);case atStart=>exact⟨0,dL _,rfl,rfl,rfl⟩
   case round=>
    obtain⟨m,G,rfl,rfl,rfl⟩:=hrel;have d:=vg m A;by_cases ym:m<8
    .have BQ:(m:Int)<8:=(by omega);have bz:cb (lg m (R ^^^ x))=lg (m+1) (R ^^^ x):=(by rw [tG];rfl);generalize lg m (R ^^^ x)=S at*;have f:=yh bz;clear bz;have I:=QG S d;rcases Nat.mod_two_eq_zero_or_one S with a|a
     .have D:(((S%2:Nat):Int) == 1)=false:=(by rw [a];rfl);have Zo:Yh (cb S=S / 2):=(by show cb S=S / 2;simp [cb,a]);clear a;go_wp2;go_roundw;case rel=>exact⟨m+1,by omega,by go_num,trivial,by rw [<-f.o,Zo.o];first|(rw [Int.natCast_ediv];rfl)|rw [s.out]⟩
      case measure=>simp [intOf];omega
     .have D:(((S%2:Nat):Int) == 1)=true:=(by rw [a];rfl);have s:Yh (bits .xor .i64 ((S:Int) / 2) 2197175160=((S / 2 ^^^ 2197175160:Nat):Int)):=pS (S / 2) 2197175160 (by omega) (by omega);have Zo:Yh (cb S=S / 2 ^^^ 2197175160):=(by show cb S=S / 2 ^^^ 2197175160;simp [cb,a]);clear a;go_wp2;go_roundw;case rel=>exact⟨m+1,by omega,by go_num,trivial,by rw [<-f.o,Zo.o];first|(rw [Int.natCast_ediv];rfl)|rw [s.out]⟩
      case measure=>simp [intOf];omega
    .have BQ:¬(m:Int)<8:=(by omega);have XO:m=8:=(by omega);subst XO;go_wp2;go_roundw;case rel=>exact⟨k+1,by omega,by go_num,trivial,by rw [g.o]⟩
     case measure=>simp [intOf];omega
  .have cC:¬(k:Int)<(n:Int):=(by omega);have UA:l.take k=l:=nC (by omega);have d:nw 4294967295 l<4294967296:=sq (by omega) j;have u:bits .xor .i64 ((nw 4294967295 l:Nat):Int) 4294967295=((nw 4294967295 l ^^^ 4294967295:Nat):Int):=pS (nw 4294967295 l) 4294967295 d (by omega);rw [UA] at*;go_wp2;go_ret;exact⟨rfl,(yh (bi wr.heap.size wr)).out⟩
def Np (a:Option Addr) (c:Nat) (w:World):
  Calls prog 238 #[.slice a 0 c] w λe w'=>e= .returned (iV ((sumOf []:Nat):Int))/\bW w w':=by
 have d:bits .xor .i64 4294967295 4294967295=0:=by decide
 have b:sumOf []=0:=by decide
 rw [b];go_in;go_wp2;refine wp_loop_rounds 1 ?_;rw [rounds_succ];go_wp2;go_ret;exact⟨rfl,bi w.heap.size w⟩
def QI (a:Option Addr) (n c:Nat) (l:List Int) (w:World) (f:Bytes l) (g:n<=140737488355328) (d:Src w a n l):
  Calls prog 238 #[.slice a n c] w λe w'=>e= .returned (iV ((sumOf l:Nat):Int))/\bW w w':=by
 by_cases h0:n=0
 .subst h0;have:l= []:=yH d.1;subst this;exact Np a c w
 .cases a with
  |none=>exact absurd (d.2.1 rfl) h0
  |some x=>
   obtain⟨b,o,rfl,k⟩:=d.spot (by omega);exact QH b o n c l w f d.1 g k
def acM (n:Nat) (a b:Int) (w:World):(Op.equalIn (n+1) 5 (.int .u8 a) (.int .u8 b)).run prog w= .ok (a == b) w:=by
 simp [Op.equalIn,go_sem]
def Ml (xs:Array Value) (a:Nat) (v:Value) (w:World) (h:xs[a]? =some v):(part 5 xs a).run prog w= .ok v w:=run_part_plain (P:=prog) w (by kernel_rfl) h
def Nq (n:Nat) (w:World) (xs c:Array Value) (j:Nat) (a b:Int) (d:List Nat) (e:xs[j]? =some (.int .u8 a)) (f:c[j]? =some (.int .u8 b)):
    (Op.eqItems (n+1) 5 1 xs c (j :: d)).run prog w=if a=b then (Op.eqItems (n+1) 5 1 xs c d).run prog w else .ok false w:=by
 simp only [Op.eqItems,Nat.mul_one,Sem.run_bind,Ml xs j _ w e,Ml c j _ w f,Result.andThen_ok,acM];by_cases h:a=b
 .simp [h]
 .simp [h]
def zc (n:Nat) (l m:List Int) (w:World):∀js:List Nat,(∀j∈js,j<l.length/\j<m.length)->
    (Op.eqItems (n+1) 5 1 (bs l).toArray (bs m).toArray js).run prog w= .ok (decide (∀j∈js,l.getD j 0=m.getD j 0)) w
 | [],_=>by simp [Op.eqItems]
 |j :: js,h=>by
  obtain⟨f,g⟩:=h j (by simp);have d:(bs l).toArray[j]? =some (.int .u8 (l.getD j 0)):=by simp [bs,List.getD,f]
  have e:(bs m).toArray[j]? =some (.int .u8 (m.getD j 0)):=by simp [bs,List.getD,g]
  rw [Nq n w _ _ j _ _ js d e];by_cases c:l.getD j 0=m.getD j 0
  .rw [aG c,(zc n l m w js (λi a=>h i (by simp [a])))];refine congrArg (λb=>Result.ok b w) ?_;rw [decide_eq_decide];exact⟨λk i a=>by rcases List.mem_cons.1 a with rfl|a;exact c;exact k i a,λk i a=>k i (by simp [a])⟩
  .rw [aB c];refine congrArg (λb=>Result.ok b w) ?_;symm;rw [decide_eq_false_iff_not];exact λk=>c (k j (by simp))
def QJ {m:List Int} (b:l.length=m.length) (h:∀i,i<l.length->l.getD i 0=m.getD i 0):l=m:=by
 apply List.ext_getElem?;intro i;by_cases a:i<l.length
 .have:=h i a;simp only [List.getD,qQ a,qQ (show i<m.length by omega),Option.getD_some] at this;rw [qQ a,qQ (show i<m.length by omega),this]
 .rw [List.getElem?_eq_none (by omega),List.getElem?_eq_none (by omega)]
def JT (N n:Nat) (T:TypeId) (l m:List Int) (f:l.length=N) (g:m.length=N) (w:World) (e:prog.underlying T=some (.array N 5)):
    (Op.equalIn (n+2) T (.agg (bs l).toArray) (.agg (bs m).toArray)).run prog w= .ok (decide (l=m)) w:=by
 obtain⟨k,c⟩:=info_of_underlying (P:=prog) underlying5;rw [run_equalIn_array (P:=prog) w (n+1) _ _ e c];have a:prog.cellsOf 5=1:=by kernel_rfl
 rw [a,zc n l m w _ (λj d=>by rw [List.mem_range] at d;omega)];refine congrArg (λb=>Result.ok b w) ?_;rw [decide_eq_decide];constructor
 .intro h;exact QJ (by omega) (λi c=>h i (List.mem_range.2 (by omega)))
 .rintro rfl _ _;rfl
def Zp (n:Nat) (l m:List Int) (a:l.length=512) (b:m.length=512) (w:World):
    (Op.equalIn (n+2) 211 (.agg (bs l).toArray) (.agg (bs m).toArray)).run prog w= .ok (decide (l=m)) w:=
 JT 512 n 211 l m a b w underlying211
def QK:prog.eqGuardType prog.depth 211=false:=by kernel_rfl
def QL (l m:List Int) (a:l.length=512) (b:m.length=512) (w:World) (x y:Operand):
    (do eqGuard .eql 211 x y (.agg (bs l).toArray) (.agg (bs m).toArray);binOp .eql 211 (.agg (bs l).toArray) (.agg (bs m).toArray)).run prog w= .ok (.bool (decide (l=m))) w:=by
 rw [Sem.run_bind,run_eqGuard_agg (P:=prog) w .eql 211 x y _ _ QK,Result.andThen_ok];show (binOp .eql 211 (.agg (bs l).toArray) (.agg (bs m).toArray)).run prog w=_;unfold binOp Op.equal Op.maxDepth;rw [Sem.run_bind,Zp 9998 l m a b w,Result.andThen_ok,Sem.run_pure]
def mB (g o i j:Nat) (w:World) (a:i<j) (f:j<=512):
  Calls prog 221 #[.pointer (some (aD g o)),iV (i:Int),iV (j:Int)] w λe w'=>e= .returned (.slice (some ⟨g,o+i,none⟩) (j-i) (j-i))/\w'=w:=by
 have b:(i:Int)<=(j:Int):=by omega
 have c:(j:Int)<=512:=by omega
 have d:¬j=i:=by omega
 go_in;go_wp2;go_ret;exact⟨rfl,rfl⟩
def QM (g o i:Nat) (w:World) (b:i<=512):
  Calls prog 221 #[.pointer (some (aD g o)),iV (i:Int),iV (i:Int)] w λe w'=>e= .returned (.slice (some (aD g o)) 0 0)/\w'=w:=by
 have a:(i:Int)<=512:=by omega
 go_in;go_wp2;go_ret;exact⟨rfl,rfl⟩
def bD:Nat->Nat->List Int
 |0,_=> []
 |k+1,m=>((m%256:Nat):Int) :: bD k (m / 256)
def aK:∀k m,(bD k m).length=k
 |0,_=>rfl
 |k+1,m=>by simp [bD,aK k]
def i9:∀k m,bD (k+1) m=bD k m ++ [((m / 2 ^ (8*k)%256:Nat):Int)]
 |0,m=>by simp [bD]
 |k+1,m=>by
  rw [bD,i9 k (m / 256),bD];have:m / 256 / 2 ^ (8*k)=m / 2 ^ (8*(k+1)):=by
   rw [Nat.div_div_eq_div_mul,show 8*(k+1)=8+8*k by omega,Nat.pow_add]
  simp [this]
def iT:∀k m,Bytes (bD k m)
 |0,_=>by intro x a;cases a
 |k+1,m=> .cons (by omega) (iT k _)
def put (l:List Int) (o:Nat) (xs:List Int):List Int:=l.take o ++ (xs ++ l.drop (o+xs.length))
def Mm {xs:List Int} {o:Nat} (h:o+xs.length<=l.length):(put l o xs).length=l.length:=by simp [put];omega
def D2 (l:List Int) (o:Nat):put l o []=l:=by simp [put]
def Ge {xs:List Int} {o:Nat} (h:o+xs.length<l.length) (x:Int):(put l o xs).set (o+xs.length) x=put l o (xs ++ [x]):=by
 unfold put;have a:(l.take o).length=o:=by simp;omega
 rw [List.set_append_right _ _ (by omega),a,List.set_append_right _ _ (by omega),show o+xs.length-o-xs.length=0 by omega];have:l.drop (o+xs.length)=l[o+xs.length] :: l.drop (o+xs.length+1):=List.drop_eq_getElem_cons h;rw [this,ld];simp [Nat.add_assoc]
def kh (w:World) (T:TypeId) (g:Nat) (l:List Int):Prop:=w.heap[g]? =some (.cells (bs l).toArray T (0,0))
def kh.lt (h:kh w T g l):g<w.heap.size:=(lY.1 h).1
def kh.cell (h:kh w T g l) (a:i<l.length):w.cell? (aD g i)=some (.int .u8 (l.getD i 0)):=
 aj h (by simp [bs,List.getD,a])
def kh.frozen (h:kh w T g l) (i:Nat):w.frozen? (aD g i)=false:=ae h i
def kh.set (h:kh w T g l) (i:Nat) (x:Int):kh (w.setCell ⟨g,i,none⟩ (.int .u8 x)) T g (l.set i x):=by
 unfold kh;rw [heap_setCell_same _ _ _ _ _ _ h];congr 2;apply Array.ext';simp [bs,List.map_set]
def kh.aw (h:kh w T g l) (a:w'.heap[g]? =w.heap[g]?):kh w' T g l:=a.trans h
def kh.src (h:kh w T g l) {o:Nat} (c:o+n<=l.length):Src w (some (aD g o)) n ((l.drop o).take n):=
   ⟨by simp;omega,(λe=>by cases e),λx b i a=>by
  cases b;rw [aN,h.cell (by omega)];simp [List.getD,a]⟩
def D3 (g o k c N:Nat) (T:TypeId) (l:List Int) (w:World) (d:kh w T g l) (q:k<=8) (r:o+k<=l.length):
  Calls prog 220 #[.slice (some (aD g o)) k c, .int .u64 (N:Int)] w λe w'=>e= .returned (.tuple #[])/\kh w' T g (put l o (bD k N))/\aa (λj=>j=g) w w'/\w'.heap.size=w.heap.size:=by
 go_in;go_wp2;go_loopw [7] (λi wr=>∃j:Nat,j<=k/\i=iV j/\kh wr T g (put l o (bD j N))/\aa (λj=>j=g) w wr/\wr.heap.size=w.heap.size) (λi _=>k-(intOf i).toNat);case atStart=>exact⟨0,dL _,rfl,by rw [bD,D2];exact d,aa.refl _ _,rfl⟩
 case round=>
  obtain⟨j,n,rfl,aV,rT,eM⟩:=hrel;by_cases bq:j<k
  .have cC:(j:Int)<(k:Int):=(by omega);have a:=aK j N;have pF:=Mm (l:=l) (xs:=bD j N) (o:=o) (by omega);have f:=aV.cell (i:=o+j) (by omega);have m:=aV.frozen (o+j);have pp:=aV.set (o+j) ((N / 2 ^ (8*j)%256:Nat):Int);have e:=Ge (l:=l) (xs:=bD j N) (o:=o) (by omega) ((N / 2 ^ (8*j)%256:Nat):Int);rw [a] at e;rw [e,<-i9] at pp;have b:=(rT.trans (aa.setCell (F:=λj=>j=g) (p:=⟨g,o+j,none⟩) wr rfl (.int .u8 ((N / 2 ^ (8*j)%256:Nat):Int))) (λ_ h=> .inl h));go_wp2;go_roundw;case rel=>exact⟨j+1,by omega,by go_num,pp,b,by simpa [World.setCell] using eM⟩
   case measure=>simp [intOf];omega
  .have cC:¬(j:Int)<(k:Int):=(by omega);obtain rfl:j=k:=(by omega);go_wp2
   go_end0
   exact⟨rfl,aV,rT,eM⟩
def Zq (i A X:Nat) (c:A<2 ^ i) (h:A+2 ^ i*X<18446744073709551616):
  bits .or .u64 (A:Int) ((2 ^ i*X:Nat):Int)=((A+2 ^ i*X:Nat):Int):=by
 have q:∀z:Nat,z<18446744073709551616->(BitVec.ofInt 64 (z:Int)).toNat=z:=by
  intro z d;rw [BitVec.toNat_ofInt];omega
 have a:A<18446744073709551616:=by omega
 have b:2 ^ i*X<18446744073709551616:=by omega
 show IntKind.u64.wrap ((BitVec.ofInt 64 (A:Int) |||BitVec.ofInt 64 ((2 ^ i*X:Nat):Int)).toNat:Int)=_;rw [BitVec.toNat_or,q A a,q _ b,Nat.or_comm,<-Nat.two_pow_add_eq_or_of_lt c X,Nat.add_comm];generalize A+2 ^ i*X=Z at*;simp only [IntKind.wrap,IntKind.bits,IntKind.signed];simp;omega
def Vz (x:Int) (k:Nat) (a:k<8):(x*2 ^ min ((8*(k:Int)).toNat) 64)=x*2 ^ (8*k):=by
 congr 2;omega
def lK (a:k<l.length):le (l.take (k+1))=le (l.take k)+2 ^ (8*k)*(l.getD k 0).toNat:=by
 rw [List.take_succ_eq_append_getElem a,vh];have:(l.take k).length=k:=by simp;omega
 rw [this];simp [le,List.getD,a]
def Gf (a:Bytes l) (h:l.length<=8):le l<18446744073709551616:=by
 have:=lE a;exact iL this (by have:=Nat.pow_le_pow_right (show 0<2 by omega) (show 8*l.length<=64 by omega);simpa using this)
def vq (b o n c:Nat) (l:List Int) (w:World) (d:Bytes l) (u:l.length=n) (v:n<=8) (g:∀i,i<n->w.cell? ⟨b,o+i,none⟩=some (.int .u8 (l.getD i 0))):
  Calls prog 240 #[.slice (some (aD b o)) n c] w λe w'=>e= .returned (.int .u64 ((le l:Nat):Int))/\w'=w:=by
 have m:=yh g;clear g;go_in;go_wp2;go_loopw [3,8] (λr i wr=>∃j:Nat,j<=n/\i=iV j/\wr=w/\r= .int .u64 ((le (l.take j):Nat):Int)) (λ_ i _=>n-(intOf i).toNat);case atStart=>exact⟨0,dL _,rfl,rfl,by simp [le]⟩
 case round=>
  obtain⟨j,t,rfl,rfl,rfl⟩:=hrel;by_cases bq:j<n
  .have cC:(j:Int)<(n:Int):=(by omega);have q:=m.o j bq;obtain⟨x,s,jL⟩:∃x:Nat,l.getD j 0=(x:Int)/\x<256:=by
    have:=d.getD j;exact⟨(l.getD j 0).toNat,by omega,by omega⟩
   have iB:=lK (l:=l) (k:=j) (by omega);have f:le (l.take j)<2 ^ (8*j):=by
    have:=lE (d.take j);have e:(l.take j).length=j:=(by simp;omega);rwa [e] at this
   have a:le (l.take (j+1))<18446744073709551616:=Gf (d.take _) (by simp;omega);rw [s] at q iB;simp only [mx] at iB;rw [iB] at a;have Nr:=Zq (8*j) _ x f a;rw [<-iB] at Nr;have Zr:((x:Int)*2 ^ (8*j))=((2 ^ (8*j)*x:Nat):Int):=(by rw [Int.natCast_mul,Int.natCast_pow,Int.mul_comm];rfl);have xB:((2 ^ (8*j)*x:Nat):Int)%18446744073709551616=((2 ^ (8*j)*x:Nat):Int):=(by omega);generalize 2 ^ (8*j)*x=Y at*;generalize le (l.take j)=A at*;clear f a iB;go_wp2;go_roundw;case rel=>exact⟨j+1,by omega,by go_num,trivial,by rw [<-(yh Nr).out]⟩
   case measure=>simp [intOf];omega
  .have cC:¬(j:Int)<(n:Int):=(by omega);have p:l.take j=l:=nC (by omega);rw [p] at*;go_wp2;go_ret;exact⟨rfl,rfl⟩
def oB (g o:Nat) (a b:Int) (w:World) (n:w.cell? (aD g o)=some (.int .u8 a)) (p:w.cell? ⟨g,o+511,none⟩=some (.int .u8 b)):
  Calls prog 184 #[.pointer (some (aD g o))] w λe w'=>e= .returned (.int .u8 ((cG a b:Nat):Int))/\w'=w:=by
 have l:=gw a b;have Zs:∀k:Nat,k<cG a b->(k:Int)=a\/(k:Int)=b:=by
  intro k d;unfold cG at d;split at d
  .omega
  .split at d
   .next c f=>omega
   .next c f=>omega
 have dM:=CC a b;generalize cG a b=t at*;go_in;go_wp2;go_loopw [3] (λi wr=>∃k:Nat,k<=t/\i= .int .u8 k/\wr=w) (λi _=>t-(intOf i).toNat);case atStart=>exact⟨0,dL _,rfl,rfl⟩
 case round=>
  obtain⟨k,d,rfl,rfl⟩:=hrel;by_cases bq:k<t
  .by_cases c:(k:Int)=a
   .have j:((k:Int) == a)=true:=(by simpa using c);go_wp2;go_roundw;case rel=>exact⟨k+1,by omega,by go_num,trivial⟩
    case measure=>simp [intOf];omega
   .have f:=(Zs k bq).resolve_left c;have j:((k:Int) == a)=false:=(by simpa using c);have m:((k:Int) == b)=true:=(by simpa using f);go_wp2;go_roundw;case rel=>exact⟨k+1,by omega,by go_num,trivial⟩
    case measure=>simp [intOf];omega
  .obtain rfl:k=t:=(by omega);have j:((k:Int) == a)=false:=(by simpa using dM.1);have m:((k:Int) == b)=false:=(by simpa using dM.2);go_wp2;go_ret;exact⟨rfl,rfl⟩
def QN (g:Nat) (T:TypeId) (l:List Int) (w:World) (d:kh w T g l) (z:l.length=512) (dO:Bytes l):
  Calls prog 222 #[pQ g] w λe w'=>e= .returned (iV ((sumOf (x8 l):Nat):Int))/\bW w w':=by
 obtain⟨y,v,gC,dE,em⟩:=info_parts gq;have s1:=d.src (o:=1) (n:=2) (by omega);have s2:=d.src (o:=7) (n:=504) (by omega);have r:Bytes ((l.drop 1).take 2):=(dO.drop _).take _;have s:Bytes ((l.drop 7).take 504):=(dO.drop _).take _;unfold x8;generalize (l.drop 1).take 2=X at*;generalize (l.drop 7).take 504=Y at*;go_in;go_wp2_with fail;refine(mB g 0 1 3 w (by omega) (by omega)).mono ?_;rintro e w1 ⟨rfl,i⟩;have eR:=i.symm;subst eR;go_wp2_with fail;refine(mB g 0 7 511 w (by omega) (by omega)).mono ?_;rintro e w1 ⟨rfl,i⟩;have eR:=i.symm;subst eR;go_wp2_with (at_builtin;refine wpList_append_grows _ rfl _ _ 36 rfl 5 y (.int .u8 0) 1 1 underlying36 v gC dE em rfl (by decide) (some (aD g 1)) 2 2 (bs X) rfl ?m0 ?m1 ?m2 (aD g 7) 504 504 (bs Y) rfl ?m3 ?m4 ?m5 ?m6 ?m7 ?m8 ?_);case m0=>intro h;cases h
 case m1=>have:=s1.1;simpa [bs] using this
 case m2=>
  intro b d j u f;cases d;obtain⟨Zt,rfl⟩:=fA f;have:=s1.1;exact s1.2.2 _ rfl j (by omega)
 case m3=>have:=s2.1;simpa [bs] using this
 case m4=>
  intro j u f;obtain⟨Zt,rfl⟩:=fA f;have:=s2.1;exact s2.2.2 _ rfl j (by omega)
 case m5=>exact cF _
 case m6=>omega
 case m7=>unfold maxLen;omega
 case m8=>omega
 intro A w1 aA aR;have t:=D1 (l:=X ++ Y) (by rw [iS];exact aA) (by have:=s1.1;have:=s2.1;simp;omega) rfl;obtain⟨a,c,rfl,fV,_,_⟩:=t.src;have q:=yn a (X ++ Y).length c (X ++ Y) w1 (r.append s) (by have:=s1.1;have:=s2.1;simp;omega) fV;have m:=(bi _ w).grown aR (bR _) (by intro k x;cases x);generalize (X ++ Y).length=N at*;obtain⟨E,p⟩:=bP (sumOf (X ++ Y));rw [<-p] at q;go_wp2_with fail;refine bJ q λC bd=>?_;go_wp2;go_ret;exact⟨by rw [<-p];rfl,m.trans (bd.mono m.size)⟩
def zs (n:Nat):List Int:=List.replicate n 0
def bH (n:Nat):(zs n).length=n:=List.length_replicate
def oC (n:Nat):zs (n+1)=0 :: zs n:=List.replicate_succ
def l6 (n m:Nat):zs (n+m)=zs n ++ zs m:=by unfold zs;rw [List.replicate_append_replicate]
def bo:Array Value:=(bs (zs 512)).toArray
def Mn:(prog.info? 211).map (λi=>(i.zero,i.size))=some (some (.agg bo),512):=by kernel_rfl
def jl (w:World):(zeroValue 211).run prog w= .ok (.agg bo) w:=by
 obtain⟨i,b,a⟩:=Option.map_eq_some_iff.1 Mn;simp only [Prod.mk.injEq] at a;simp [zeroValue,typeInfo,b,a.1]
def D4:(prog.info? 211).map (·.size)=some 512:=by
 obtain⟨i,b,a⟩:=Option.map_eq_some_iff.1 Mn;simp only [Prod.mk.injEq] at a;rw [b,<-a.2];rfl
def ahO (n:Nat) (h:n<65536):bD 2 n= [((n%256:Nat):Int),((n / 256:Nat):Int)]:=by
 simp only [bD];congr 3;omega
def acN (s:Nat):bD 4 s=ow s:=by
 simp only [bD,ow,Nat.div_div_eq_div_mul]
def QO (l:List Int) (x y:Int):(l ++ [x]).set l.length y=l ++ [y]:=by
 rw [List.set_append_right _ _ (bR _),Nat.sub_self];rfl
def s1 (t:Int):List Int:=t :: (zs 510 ++ [t])
def Zu (t:Int):(s1 t).length=512:=by simp only [s1,List.length_cons,ee,bH,List.length_nil]
def s2 (t:Int) (n:Nat):List Int:=t :: ((n%256:Nat):Int) :: ((n / 256:Nat):Int) :: (zs 508 ++ [t])
def Zv (t:Int) (n:Nat):(s2 t n).length=512:=by simp only [s2,List.length_cons,ee,bH,List.length_nil]
def acO (t:Int) (n:Nat) (h:n<65536):put (s1 t) 1 (bD 2 n)=s2 t n:=by
 rw [ahO n h];unfold s1 s2;rw [oC 509,oC 508];simp only [put,List.take_succ_cons,List.take_zero,List.length_cons,List.length_nil,List.cons_append,List.nil_append,List.drop_succ_cons,List.drop_zero]
def s3 (t:Int) (body:List Int):List Int:=t :: ((body.length%256:Nat):Int) :: ((body.length / 256:Nat):Int) :: 0 :: 0 :: 0 :: 0 :: (body ++ (List.replicate (504-body.length) 0 ++ [t]))
def QP (t:Int) (h:body.length<=504):(s3 t body).length=512:=by simp [s3];omega
def acP (t:Int) (body:List Int) (h:body.length<=504):put (s2 t body.length) 7 body=s3 t body:=by
 unfold s2 s3;have e:(zs 508 ++ [t])=0 :: 0 :: 0 :: 0 :: (zs body.length ++ (zs (504-body.length) ++ [t])):=by
  rw [<-rG,<-l6,show body.length+(504-body.length)=504 by omega,oC 507,oC 506,oC 505,oC 504];rfl
 rw [e];simp only [put,List.take_succ_cons,List.take_zero,List.cons_append,List.nil_append];rw [show 7+body.length=body.length+7 by omega];simp only [List.drop_succ_cons];rw [List.drop_left' (bH _)];rfl
def QQ {t:Int} (a:0<=t/\t<256) (b:Bytes body) (h:body.length<=504):Bytes (s3 t body):=
   .cons a (.cons (by omega) (.cons (by omega) (.cons (by omega) (.cons (by omega) (.cons (by omega) (.cons (by omega) (b.append ((Bytes.tP _).append (.cons a .nil)))))))))
def VA (t:Int) (body:List Int) (h:body.length<=504):x8 (s3 t body)=nJ body:=by
 unfold x8 s3 nJ;simp only [List.drop_succ_cons,List.drop_zero,List.take_succ_cons,List.take_zero,List.cons_append,List.nil_append];rw [<-rG,List.take_left' (by simp;omega)]
def acQ (t:Int) (body:List Int):put (s3 t body) 3 (bD 4 (sumOf (nJ body)))=bh t body:=by
 rw [acN];unfold s3 bh;simp only [put,List.take_succ_cons,List.take_zero,oz,List.cons_append,List.nil_append,List.drop_succ_cons,List.drop_zero]
def Zw (l xs:List Int) (o:Nat):splice (bs l) o (bs xs)=bs (put l o xs):=by
 simp [splice,bs,put,List.map_take,List.map_drop]
def QR (w:World) (m T:TypeId) (g b ie BF:Nat) (a:Option Addr) (j7 BG:Nat) (cur l:List Int) (d:kh w T g cur)
    (i:Src w a j7 l) (f:j7<=ie) (FJ:b+ie<=cur.length):
  ∃w2,(Builtin.copy_ #[36,36] m #[.slice (some (aD g b)) ie BF, .slice a j7 BG]).run prog w= .ok (goInt j7) w2/\
   kh w2 T g (put cur b l)/\aa (λk=>k=g) w w2/\w2.heap.size=w.heap.size:=by
 have p:=i.1;by_cases h0:j7=0
 .refine⟨w,?_,?_,aa.refl _ _,rfl⟩
  .have:=run_copy_none (P:=prog) w 36 36 m 5 (some (aD g b)) a ie BF j7 BG underlying36 DF (by rw [h0];exact Nat.zero_min _);rw [h0] at this⊢;exact this
  .have:l= []:=yH (by omega);rw [this,D2];exact d
 .cases a with
  |none=>have:=i.2.1 rfl;omega
  |some x=>
   have c:(bs l).length=Nat.min j7 ie:=by
    have e:Nat.min j7 ie=j7:=Nat.min_eq_left f;simp only [bs,jF,e];omega
   have bI:=run_copy_row (P:=prog) w 36 36 m 5 g b ie BF x j7 BG (bs cur).toArray T (bs l) underlying36 DF d c
      (λj v n=>by
     obtain⟨Bk,rfl⟩:=fA n;rw [i.2.2 x rfl j (by omega)]) (by simp only [List.size_toArray];simp [bs];omega) (cF _)
   have e:(bs l).length=j7:=(by simp only [bs,jF];omega);rw [e] at bI;refine⟨_,bI,?_,⟨rfl,rfl,rfl,by simp,λk _ o=>setRow_other w g k _ o⟩,by simp⟩;unfold kh;rw [setRow_heap w g _ _ T _ d,<-Zw];simp only [splice,rG,e]
def acR (t:Int):(bo.setIfInBounds 0 (Value.int .u8 t)).setIfInBounds 511 (Value.int .u8 t)=(bs (s1 t)).toArray:=by
 apply Array.ext';rw [Array.toList_setIfInBounds,Array.toList_setIfInBounds];unfold bo s1;show ((bs (zs 512)).set 0 (Value.int .u8 t)).set 511 (Value.int .u8 t)=bs (t :: (zs 510 ++ [t]));rw [bs,bs,<-List.map_set,<-List.map_set,oC 511,ld,lT,l6 510 1];have:=QO (zs 510) 0 t;rw [bH] at this;have e:zs 1= [0]:=rfl;rw [e,this]
def Ns (h:kh w T g l):w.rangeAt g 0 (bs l):=by
 intro j v b;obtain⟨a,rfl⟩:=fA b;rw [Nat.zero_add];exact h.cell a
def cH (h:w.heap[g]? =some (.cells cur T (0,0))) (b:cur.size=n):w.there g 0 n:=by
 intro j a;rw [Nat.zero_add];exact⟨by rw [aj h (j:=j) (u:=cur[j]'(by omega)) (by simp [show j<cur.size by omega])];rfl,ae h j⟩
def cT:bo.size=512:=by unfold bo;simp only [List.size_toArray,bs,jF,bH]
def jc (h:l.length=512):(prog.info? 211).map (·.size)=some (bs l).length:=by
 rw [D4,bs,jF,h]
def oD (t:Nat) (a:Option Addr) (n c:Nat) (body:List Int) (w:World) (A:t<256) (m:Src w a n body) (x:n<=504) (q:Bytes body):
  Calls prog 183 #[.int .u8 (t:Int), .slice a n c] w λe w'=>e= .returned (.agg (bs (bh t body)).toArray)/\bW w w':=by
 obtain⟨H,y,BM⟩:=kH m jl m.1;have Bo:=(λw1=>mB (w.heap.size+1) 0 1 3 w1 (by omega) (by omega));have BP:=(λw1=>mB (w.heap.size+1) 0 7 511 w1 (by omega) (by omega));have Ni:=(λw1=>mB (w.heap.size+1) 0 3 7 w1 (by omega) (by omega));clear m;go_in;go_wp2_with fail;rw [acR];obtain⟨w1,bT⟩:=bP ((w.alloc (.cells bo 211)).alloc (.cells (bs (s1 t)).toArray 211));have bN:bW w w1:=by rw [bT];exact((bi _ w).alloc (bR _) _).alloc (by simp) _
 have aV:kh w1 211 (w.heap.size+1) (s1 t):=by rw [bT];exact heap_alloc2_new _ _ _
 have jq:w1.heap[w.heap.size]? =some (.cells bo 211 (0,0)):=by rw [bT];exact heap_alloc2_old _ _ _
 rw [<-bT];clear bT y;refine(Bo w1).mono ?_;rintro e w' ⟨rfl,b⟩;have eR:=b.symm;subst eR;clear b Bo;have d:=D3 (w.heap.size+1) 1 2 2 n 211 (s1 t) w1 aV (by omega) (by rw [Zu];omega);rw [acO t n (by omega)] at d;have Zx:=jq;have cQ:=bN;clear aV jq bN;go_wp2_with fail;refine pz d λr aV l em=>?_;have eV:=cQ.trans (l.below (λj k=>by omega) cQ.size);have jq:=(l.block _ (lY.1 Zx).1 (by omega)).trans Zx;obtain⟨s,bI,QS,aZ,lq⟩:=QR r 3 211 (w.heap.size+1) 7 504 504 a n c (s2 t n) body aV (H.later eV) x (by rw [Zv];omega);have jY:=eV.trans (aZ.below (λj k=>by omega) eV.size);have wJ:=(aZ.block _ (lY.1 jq).1 (by omega)).trans jq;have g:=acP t body (by omega);rw [BM] at g;rw [g] at QS;obtain⟨Mo,QT,fS⟩:=kH QS wJ jY;clear d aV l eV jq aZ jY wJ QS cQ Zx em lq g;go_wp2_with fail;refine(BP r).mono ?_;rintro e w' ⟨rfl,b⟩;have eR:=b.symm;subst eR;clear b BP;go_wp2_with fail;refine(Ni s).mono ?_;rintro e w' ⟨rfl,b⟩;have eR:=b.symm;subst eR;clear b Ni bI;have Gg:=QN (w.heap.size+1) 211 (s3 t body) s Mo (QP t (by omega)) (QQ (by omega) q (by omega));rw [VA t body (by omega)] at Gg;have v:=nB (wG q (show body.length<=504 by omega));have i:=acQ t body;obtain⟨E,o⟩:=bP (sumOf (nJ body));rw [<-o] at Gg v i;have f:=i;clear o i;go_wp2_with fail;refine bJ Gg λz eJ=>?_;have XP:=Mo.aw (eJ.block _ Mo.lt);have rU:=(eJ.block _ (lY.1 QT).1).trans QT;have rK:=fS.trans (eJ.mono fS.size);have d:=D3 (w.heap.size+1) 3 4 4 E 211 (s3 t body) z XP (by omega) (by rw [QP t (by omega)];omega);rw [f] at d;have QU:=rU;have jZ:=rK;clear Gg eJ XP rU rK Mo QT fS f;go_wp2_with fail;refine pz d λw5 XQ dX pT=>?_;have XR:=(dX.block _ (lY.1 QU).1 (by omega)).trans QU;have JU:=jZ.trans (dX.below (λj k=>by omega) jZ.size);have j1:(bh t body).length=512:=fx (by omega);have Bu:=Ns XQ;have eh:=cH XR cT;have aW:=jc j1;have j8:(bs (bh t body)).length=512:=by rw [bs,jF,j1]
 have dD:=cF (bh t body);generalize p:bs (bh t body)=F at*;rw [<-j8] at eh;have my:=(World.rangeAt_setCells_same w5 w.heap.size 0 F eh);have bX:=all_oneCell_toArray dD;have Bv:=JU.trans ((aa.setCells (F:=λj=>j=w.heap.size) rfl F 0 w5).below (λj k=>by omega) JU.size);have u:=p;clear d XQ dX pT XR JU j1 QU jZ dD p;go_wp2_with (first|refine wpList_load_mid rfl 211 _ rfl (w.heap.size+1) 0 rfl F _ Bu underlying211 rfl aW ?_|refine wpList_store_mid rfl 211 _ _ rfl w.heap.size 0 F.toArray rfl rfl ?h1 ?h2 bX ?_);case h1=>simpa using eh
 case h2=>simpa using aW
 exact bodyPost_ret (gz (P:=prog) rfl _ _ w.heap.size F _ rfl my underlying211 rfl aW) rfl ⟨by rw [u],Bv⟩
def results_cell_tmp {P:Program} {b:Func} {p q:Tmp} (h:b.results= #[.cell p ty, .tmp q]) (a:Array Value) (w:World) (g:Nat) (cs:List Value) (d:TypeDesc) (v:Value)
    (f:a.getD p undef=pQ g) (i:a.getD q undef=v) (c:w.rangeAt g 0 cs) (j:P.underlying ty=some d) (hd:d.isRow=true) (e:(P.info? ty).map (·.size)=some cs.length):
    (results b a).run P w= .ok (.tuple #[.agg cs.toArray,v]) w:=by
 have Zm:a[p]?.getD undef=pQ g:=by simpa using f
 have XS:a[q]?.getD undef=v:=by simpa using i
 simp [results,h,Zm,XS,asAddr,run_loadVar_mid w g 0 ty cs d c j hd e]
def nK {b o:Nat} (h:Src w (some (aD b o)) n l):w.rangeAt b o (bs l):=by
 intro j v a;obtain⟨c,rfl⟩:=fA a;have:=h.2.2 _ rfl j (by have:=h.1;omega);rwa [aN] at this
def QV (a:Option Addr) (c:Nat) (w:World):(Instr.arrayAt 211 (.slice a 512 c)).run prog w= .ok (.pointer a) w:=by
 simp [Instr.arrayAt,run_underlying underlying211]
def ze:∀v∈bo.toList,v.oneCell'=true:=cF (zs 512)
def zf:(prog.info? 211).map (·.size)=some bo.toList.length:=jc (l:=zs 512) (bH 512)
def pU (a:Option Addr) (n c:Nat) (w:World) (d:n≠512):
  Calls prog 218 #[.slice a n c] w λe w'=>e= .returned (.tuple #[.agg bo, .bool false])/\bW w w':=by
 have f:=jl;have h1:(((n:Int)) != 512)=true:=by rw [gg];omega
 have aW:=zf;have dD:=ze;generalize bo=Z at*;have bT:(w.alloc (.cells Z 211)).heap[w.heap.size]? =some (.cells Z 211 (0,0)):=heap_alloc_new _ _;have eh:(w.alloc (.cells Z 211)).there w.heap.size 0 Z.toList.length:=cH bT (by simp);have bX:Z.all Value.oneCell'=true:=all_oneCell_toArray dD;have bN:bW w (w.alloc (.cells Z 211)):=(bi _ w).alloc (bR _) _;go_in;go_wp2_with (refine wpList_store_mid rfl 211 _ _ rfl w.heap.size 0 Z rfl rfl ?h1 ?h2 bX ?_);case h1=>simpa using eh
 case h2=>simpa using aW
 exact bodyPost_ret (results_cell_tmp (P:=prog) rfl _ _ w.heap.size Z.toList _ _ rfl rfl (World.rangeAt_setCells_same _ w.heap.size 0 Z.toList eh) underlying211 rfl aW) rfl ⟨rfl,bN.trans ((aa.setCells (F:=λj=>j=w.heap.size) rfl Z.toList 0 _).below (λj b=>by omega) bN.size)⟩
def mC (b o c:Nat) (l:List Int) (w:World) (a:Src w (some (aD b o)) 512 l):
  Calls prog 218 #[.slice (some (aD b o)) 512 c] w λe w'=>e= .returned (.tuple #[.agg (bs l).toArray, .bool true])/\bW w w':=by
 have f:=jl;have Zy:=QV (some (aD b o)) c;have bN:bW w (w.alloc (.cells bo 211)):=(bi _ w).alloc (bR _) _;have Bu:=nK (a.later bN);have aW:=jc (l:=l) a.1;have dD:=cF l;have bT:(w.alloc (.cells bo 211)).heap[w.heap.size]? =some (.cells bo 211 (0,0)):=heap_alloc_new _ _;have eh:=cH bT cT;have j8:(bs l).length=512:=by rw [bs,jF,a.1]
 generalize bs l=F at*;rw [<-j8] at eh;have my:=(World.rangeAt_setCells_same _ w.heap.size 0 F eh);have bX:=all_oneCell_toArray dD;have Bv:=(bN.trans ((aa.setCells (F:=λj=>j=w.heap.size) rfl F 0 _).below (λj d=>by omega) bN.size));go_in;go_wp2_with (first|refine wpList_load_mid rfl 211 _ rfl b o rfl F _ Bu underlying211 rfl aW ?_|refine wpList_store_mid rfl 211 _ _ rfl w.heap.size 0 F.toArray rfl rfl ?h1 ?h2 bX ?_);case h1=>simpa using eh
 case h2=>simpa using aW
 exact bodyPost_ret (results_cell_tmp (P:=prog) rfl _ _ w.heap.size F _ _ rfl rfl my underlying211 rfl aW) rfl ⟨rfl,Bv⟩
def yo (w:World) (B:Nat) (v:Value) (l:List Int):Prop:=∃a c,v= .slice a l.length c/\Src w a l.length l/\l.length<=c/\∀x,a=some x->B<=x.block
def yo.nil (w:World) (B:Nat):yo w B (.slice none 0 0) []:=⟨none,0,rfl,⟨rfl,λ_=>rfl,λx a=>by cases a⟩,bR _,λx a=>by cases a⟩
def yo.later {B:Nat} (h:yo w B v l) (b:bW w w'):yo w' B v l:=by
 obtain⟨a,c,rfl,e,d,f⟩:=h;exact⟨a,c,rfl,e.later b,d,f⟩
def kh.lst {B:Nat} (h:kh w T g l) (a:B<=g):yo w B (.slice (some (aD g 0)) l.length l.length) l:=by
 refine⟨some (aD g 0),l.length,rfl,?_,bR _,λx b=>by cases b;exact a⟩;have:=h.src (o:=0) (n:=l.length) (by omega);simpa using this
def sC:∀(vs b:List Value) (cur:Array Value),w.heap[g]? =some (.cells cur T (0,0))->(∃a,cur.toList=b ++ a/\a.length=vs.length)->
    (w.setCells g b.length vs).heap[g]? =some (.cells (b ++ vs).toArray T (0,0)):=by
 intro vs
 induction vs generalizing w with
 |nil=>
  intro b cur f ⟨a,c,d⟩;have:a= []:=yH d;subst this;simp only [List.append_nil] at c⊢;show w.heap[g]? =_;rw [f,<-c]
 |cons v r i=>
  intro b cur f ⟨a,c,d⟩;cases a with
  |nil=>simp at d
  |cons u a=>
   have e:(cur.setIfInBounds b.length v).toList=(b ++ [v]) ++ a:=by
    rw [Array.toList_setIfInBounds,c,List.set_append_right _ _ (bR _),Nat.sub_self];simp
   have:=i (w:=w.setCell ⟨g,b.length,none⟩ v) (b ++ [v]) _ (heap_setCell_same w g b.length cur T v f) ⟨a,e,by simpa using d⟩;simp only [World.setCells];simpa using this
def eO (a:w.heap[g]? =some (.cells cur T (0,0))) (b:cur.size=l.length):kh (w.setCells g 0 (bs l)) T g l:=
 sC (bs l) [] cur a ⟨cur.toList,rfl,by simp [bs,b]⟩
def QW (a:Option Addr) (n c:Nat) (b:Option Addr) (m d:Nat) (w:World) (f:n≠512):
  Calls prog 236 #[.slice a n c, .slice b m d] w λe w'=>e= .returned (.tuple #[.slice none 0 0,iV 2])/\bW w w':=by
 obtain⟨k,g,aW,dD⟩:=cP jl (pU a n c w f) zf ze;generalize bo=Z at*;have bX:Z.all Value.oneCell'=true:=all_oneCell_toArray dD;go_in;go_wp2_with fail;refine bJ g λw1 ar=>?_;have bT:(w1.alloc (.cells Z 211)).heap[w1.heap.size]? =some (.cells Z 211 (0,0)):=heap_alloc_new _ _;have eh:(w1.alloc (.cells Z 211)).there w1.heap.size 0 Z.toList.length:=cH bT (by simp);have bN:bW w (w1.alloc (.cells Z 211)):=ar.alloc ar.size _;have eM:=ar.size;have Bv:=(bN.trans ((aa.setCells (F:=λj=>j=w1.heap.size) rfl Z.toList 0 _).below (λj i=>by omega) bN.size));go_wp2_with (refine wpList_store_mid rfl 211 _ _ rfl w1.heap.size 0 Z rfl rfl ?h1 ?h2 bX ?_);case h1=>simpa using eh
 case h2=>simpa using aW
 go_ret2;exact⟨rfl,Bv⟩
def QX (b o c:Nat) (old:List Int) (d:Option Addr) (m f:Nat) (w:World) (a:Src w (some (aD b o)) 512 old) (i:504<m):
  Calls prog 236 #[.slice (some (aD b o)) 512 c, .slice d m f] w λe w'=>e= .returned (.tuple #[.slice none 0 0,iV 7])/\bW w w':=by
 have k:=jl;have hm':504<(m:Int):=by omega
 have el:=mC b o c old w a;have aW:=jc (l:=old) a.1;have dD:=cF old;have j8:(bs old).length=512:=by rw [bs,jF,a.1]
 generalize bs old=F at*;have bX:=all_oneCell_toArray dD;go_in;go_wp2_with fail;refine bJ el λw1 ar=>?_;have bT:(w1.alloc (.cells bo 211)).heap[w1.heap.size]? =some (.cells bo 211 (0,0)):=heap_alloc_new _ _;have eh:=cH bT cT;rw [<-j8] at eh;have bN:bW w (w1.alloc (.cells bo 211)):=ar.alloc ar.size _;have eM:=ar.size;have Bv:=yh (bN.trans ((aa.setCells (F:=λj=>j=w1.heap.size) rfl F 0 _).below (λj g=>by omega) bN.size));go_wp2_with (refine wpList_store_mid rfl 211 _ _ rfl w1.heap.size 0 F.toArray rfl rfl ?h1 ?h2 bX ?_);case h1=>simpa using eh
 case h2=>simpa using aW
 go_ret2;exact⟨rfl,Bv.out⟩
def VB (b o c:Nat) (old:List Int) (f:Option Addr) (m q:Nat) (body:List Int) (w:World) (d:Src w (some (aD b o)) 512 old) (br:Src w f m body) (y:m<=504) (v:Bytes body):
  Calls prog 236 #[.slice (some (aD b o)) 512 c, .slice f m q] w λe w'=>∃g,e= .returned (.tuple #[.slice (some (aD g 0)) 512 512,iV 0])/\kh w' 211 g (bh (cG (old.getD 0 0) (old.getD 511 0)) body)/\w.heap.size<=g/\bW w w':=by
 obtain⟨A,el,aW,dD⟩:=cP jl (mC b o c old w d) (jc (l:=old) d.1) (cF old);have j8:(bs old).length=512:=by rw [bs,jF,d.1]
 obtain⟨acT,bX,p,BM,z⟩:=eQ d.1 (all_oneCell_toArray dD) (yh br) br.1 (gw (old.getD 0 0) (old.getD 511 0));obtain⟨t,xE⟩:=bP (cG (old.getD 0 0) (old.getD 511 0));rw [<-xE] at z;obtain⟨F,k⟩:=bP (bs old);rw [<-k] at el aW dD j8 bX;clear dD d br;go_in;go_wp2_with fail;refine bJ el λw1 ar=>?_;have bT:(w1.alloc (.cells bo 211)).heap[w1.heap.size]? =some (.cells bo 211 (0,0)):=heap_alloc_new _ _;have eh:=cH bT cT;rw [<-j8] at eh;have bN:bW w (w1.alloc (.cells bo 211)):=ar.alloc ar.size _;have eM:=ar.size;have eV:=bN.trans ((aa.setCells (F:=λj=>j=w1.heap.size) rfl F 0 _).below (λj x=>by omega) bN.size);have aV:=eO (l:=old) bT (by rw [cT,acT]);rw [<-k] at aV;have JV:=oB w1.heap.size 0 (old.getD 0 0) (old.getD 511 0) _ (aV.cell (by omega)) (aV.cell (i:=511) (by omega));rw [<-xE] at JV;have yq:=oD t f m q body _ (by omega) (p.o.later eV) y v;obtain⟨C,dN⟩:=bP ((w1.alloc (.cells bo 211)).setCells w1.heap.size 0 F);rw [<-dN] at JV yq eV;obtain⟨dZ,QY⟩:=bV eV xE;clear el bT bN ar aV eV xE k p;go_wp2_with (refine wpList_store_mid rfl 211 _ _ rfl w1.heap.size 0 F.toArray rfl rfl ?h1 ?h2 bX ?_);case h1=>simpa using eh
 case h2=>simpa using aW
 rw [<-dN];refine bJ JV λw' r=>?_;have eR:=r.symm;subst eR;clear r JV eh dN bX aW;have j1:(bh t body).length=512:=fx (by omega);have aW:=jc (l:=bh t body) j1;have bX:=all_oneCell_toArray (cF (bh t body));have D5:(bs (bh t body)).length=512:=by rw [bs,jF,j1]
 obtain⟨G,n⟩:=bP (bs (bh t body));rw [<-n] at yq aW bX D5;have s:=yh n;clear n;go_wp2_with fail;refine bJ yq λa bz=>?_;have jY:=dZ.o.trans (bz.mono dZ.o.size);have ec:(a.alloc (.cells bo 211)).heap[a.heap.size]? =some (.cells bo 211 (0,0)):=heap_alloc_new _ _;have eh:=cH ec cT;rw [<-D5] at eh;have aV:=eO (l:=bh t body) ec (by rw [cT,j1]);rw [<-s.o] at aV;have FR:=jY.size;have rK:bW w (a.alloc (.cells bo 211)):=jY.alloc jY.size _;rw [QY.o] at aV;have u:=yh (aH aV (aH jY.size (rK.trans ((aa.setCells (F:=λj=>j=a.heap.size) rfl G 0 _).below (λj x=>by omega) rK.size))));clear yq jY ec aV rK bz dZ;go_wp2_with (refine wpList_store_mid rfl 211 _ _ rfl a.heap.size 0 G.toArray rfl rfl ?h1 ?h2 bX ?_);case h1=>simpa using eh
 case h2=>simpa using aW
 go_ret2;exact⟨a.heap.size,rfl,u.o⟩
def cq {b:Array Oper} {rest:List Oper} {o:Oper} {a:Act} {Q:Exit->Act->World->Prop} (Gh:o.guard=none) (s x:Operand)
    (mn:o.op=Op.call {callee:=Callee.builtin Builtin.append,args:= #[s,x],argTypes:= #[36,36]})
    (B:Nat) (v:Value) (l:List Int) (y:Int) (m:a.eval s=v) (n:a.eval x= .slice (some (aD w.heap.size 0)) 1 1) (aA:Own w B v l) (d:l.length<=140737488355327) (i:B<=w.heap.size)
    (j:∀c w',Own w' B c (l ++ [y])->Below B w w'->wpList prog b Q rest (a.put o.dst c) w'):
  wpList prog b Q (o :: rest) a (w.alloc (.cells #[.int .u8 y] 5)):=by
 obtain⟨p,k,gC,dE,em⟩:=info_parts gq;have f:w.ownsRow B 5 1 v l.length (bs l):=aA;refine wpList_append_own _ Gh s x 36 mn B 5 p (.int .u8 0) 1 1 underlying36 k gC dE em rfl (by decide) v l.length (bs l) m (f.alloc _) (aD w.heap.size 0) 1 1 [.int .u8 y] n rfl (cell_one_new _ _ _) (by intro u g;simp at g;subst g;rfl) (by unfold maxLen;omega) (by omega) (by simp;omega) ?_;intro c w1 cN lr _;refine j c w1 ?_ (((bi _ w).alloc i _).grown lr (by simp;omega) (λq e=>(f.lt q e).1));rw [Vy] at cN;exact D1 cN (by simp) rfl
def acU:Value->Nat
 | .slice _ n _=>n
 |_=>0
def Own.VC {B:Nat} (h:Own w B v l) (h0:0<l.length):∃g c,v= .slice (some (aD g 0)) l.length c/\B<=g/\ay w 5 g c (bs l):=by
 obtain⟨a,c,rfl,_,_,_⟩:=h.src;obtain⟨g,rfl,_,b,d⟩:=h.row h0;exact⟨g,c,rfl,b,d⟩
def ay.get (h:ay w e g c (bs l)) (a:i<l.length):w.cell? (aD g i)=some (.int .u8 (l.getD i 0)):=by
 have:=h.byte a;rwa [aN,Nat.zero_add] at this
def BS (a b:List Int) (x:Int):a ++ b ++ [x]=a ++ (b ++ [x]):=rG _ _ _
def VD (k:Nat):zs k ++ [0]=zs (k+1):=by rw [l6];rfl
def CJ (t:Nat) (a:Option Addr) (n c:Nat) (body:List Int) (w:World) (ht:t<256) (hs:Src w a n body) (hn:n<=504) (hb:Bytes body):
  Calls prog 217 #[iV (t:Int), .slice a n c] w λe w'=>∃v,e= .returned v/\Own w' w.heap.size v (bh t body)/\bW w w':=by
 have H:=yh hs;have BM:=hs.1;have q1:((n:Int)).tmod 256=((n%256:Nat):Int):=by rw [yI (by omega)];omega
 have q2:((n:Int)).tdiv 256=((n / 256:Nat):Int):=by rw [Int.tdiv_eq_ediv_of_nonneg (by omega)];omega
 clear hs;go_in;go_wp2_with (at_builtin;refine cq rfl _ _ rfl w.heap.size _ [] _ rfl rfl (Own.nil w _) ?b1 ?b2 ?_);case b1=>simp
 case b2=>exact bR _
 intro v1 w1 tR ar;have dE:=ar.size;have I:=yh tR;have cQ:=yh ar;clear tR ar;go_wp2_with (at_builtin;refine cq rfl _ _ rfl w.heap.size v1 _ _ rfl rfl I.o ?b1 ?b2 ?_);case b1=>simp
 case b2=>exact dE
 intro v2 w2 jw bd;have acV:Own w2 w.heap.size v2 ([((n%256:Nat):Int),((n / 256:Nat):Int)] ++ body.take 0):=jw;obtain⟨A,dZ⟩:=bV acV (cQ.o.trans (bd.mono (bR _)));obtain⟨hd,y⟩:∃hd,hd= [((n%256:Nat):Int),((n / 256:Nat):Int)]:=⟨_,rfl⟩;have qV:hd.length=2:=by rw [y];rfl
 rw [<-y] at A;have G:=yh y;clear jw acV bd y I cQ dE q1 q2;go_wp2;go_loopw [5,6] (λv i wr=>∃k:Nat,k<=n/\i=iV k/\Own wr w.heap.size v (hd ++ body.take k)/\bW w wr) (λ_ i _=>n-(intOf i).toNat);case atStart=>exact⟨0,dL _,rfl,A.o,dZ.o⟩
 case round=>
  clear A dZ;obtain⟨k,hk,rfl,aA,ey⟩:=hrel;have bw:=yh aA;have f:=yh ey;have r:=ey.size;clear aA ey;by_cases bq:k<n
  .have cC:(k:Int)<(n:Int):=(by omega);obtain⟨x0,rfl⟩:∃x,a=some x:=by
    cases a with
    |none=>have:=H.o.2.1 rfl;omega
    |some x=>exact⟨x,rfl⟩
   obtain⟨b,o,rfl,cU⟩:=H.o.spot (by omega);have hc:=cell_later f.o (cU k bq);have CK:=yh (kf body k (by omega));clear cU;generalize body.getD k 0=x at*;go_wp2_with (at_builtin;refine cq rfl _ _ rfl w.heap.size u5 _ x rfl rfl bw.o ?b1 ?b2 ?_);case b1=>simp;omega
   case b2=>exact r
   intro z w' p eI;have u:Yh (Own w' w.heap.size z (hd ++ body.take (k+1))):=(by rw [<-CK.o];exact p);have xF:=yh (f.o.trans (eI.mono (bR _)));clear p eI bw f CK;go_wp2;go_roundw;case rel=>exact⟨k+1,by omega,by go_num,u.o,xF.o⟩
   case measure=>simp [intOf];omega
  .have cC:¬(k:Int)<(n:Int):=(by omega);have e:body.take k=body:=nC (by omega);rw [e] at bw;clear e;have i8:Yh (Own wr w.heap.size u5 (hd ++ body ++ zs 0)):=(by show Own wr w.heap.size u5 (hd ++ body ++ []);rw [List.append_nil];exact bw.o);obtain⟨T,hT⟩:=bP (hd ++ body);have U:T.length=2+n:=(by rw [hT];simp;omega);rw [<-hT] at i8;have HT:=yh hT;clear hT bw;go_wp2;go_loopw [5] (λv wr=>∃k:Nat,k<=504-n/\Own wr w.heap.size v (T ++ zs k)/\bW w wr) (λv _=>506-acU v);case atStart=>exact⟨0,dL _,i8.o,f.o⟩
   case round=>
    clear i8 f r;obtain⟨j,hj,aA,ey⟩:=hrel;obtain⟨L,D,rfl,_,_,_⟩:=aA.src;have d:(T ++ zs j).length=2+n+j:=(by rw [ee,bH,U]);rw [d] at aA;have bw:=yh aA;have f:=yh ey;have r:=ey.size;clear aA ey;rw [d];by_cases hlj:j<504-n
    .have ahQ:((2+n+j:Nat):Int)<506:=(by omega);obtain⟨N,hN⟩:=bP (2+n+j);rw [<-hN] at ahQ d bw⊢;have HN:=yh hN;clear hN;go_wp2_with (at_builtin;refine cq rfl _ _ rfl w.heap.size (.slice L N D) _ 0 rfl rfl bw.o ?b1 ?b2 ?_);case b1=>omega
     case b2=>exact r
     intro z w' p eI;have u:Yh (Own w' w.heap.size z (T ++ zs (j+1))):=(by rw [<-VD,<-BS];first|exact p|(rw [rG];exact p));have xF:=yh (f.o.trans (eI.mono (bR _)));clear p eI bw f;go_wp2;go_roundw;case rel=>exact⟨j+1,by omega,u.o,xF.o⟩
     case measure=>
      obtain⟨a1,W,rfl,_,_,_⟩:=u.o.src;have:(T ++ zs (j+1)).length=2+n+(j+1):=(by rw [ee,bH,U]);have hN:=HN.o;simp only [acU,this];omega
    .obtain rfl:j=504-n:=(by omega);have e6:2+n+(504-n)=506:=(by omega);rw [e6] at bw d⊢;have eT:T ++ zs (504-n)=nJ body:=by
      rw [HT.o,G.o,<-BM];simp [nJ,zs]
     rw [eT] at bw d;have QZ:=wG hb (by omega);have O:=nB QZ;obtain⟨E,Z⟩:=bP (sumOf (nJ body));obtain⟨X,F⟩:=bP (nJ body);have XT:X.drop 2=body ++ zs (504-n):=(by rw [F,<-BM];simp [nJ,zs]);have rL:X.getD 0 0=((n%256:Nat):Int):=(by rw [F,<-BM];rfl);have jL:X.getD 1 0=((n / 256:Nat):Int):=(by rw [F,<-BM];rfl);have jK:bh t body= [(t:Int),X.getD 0 0,X.getD 1 0] ++ bD 4 E ++ X.drop 2 ++ [(t:Int)]:=by
      rw [XT,rL,jL,Z,acN,<-BM];simp [bh,zs]
     rw [<-F] at bw d QZ;rw [<-Z] at O;have lj:=yh jK;have XU:E=sumOf X:=(by rw [Z,F]);clear jK XT rL jL Z F eT e6 HT G;have Q0:=bw.o;rw [<-d] at Q0;obtain⟨g,ct,wK,hgB,be⟩:=Own.VC (l:=X) Q0 (by omega);have hae:L=some (aD g 0):=(by cases wK;rfl);have hce:D=ct:=(by cases wK;rfl);subst hae;subst hce;have hq:=QI (some (aD g 0)) 506 D X wr QZ (by omega) (by have:=be.src;rw [d] at this;exact this);rw [<-XU] at hq;have vo:=yh be;clear Q0 wK be bw XU QZ hlj;go_wp2_with fail;refine bJ hq λq bz=>?_;have rV:=vo.o.agree (bz.block g vo.o.lt);have jY:=f.o.trans (bz.mono f.o.size);have lq:=jY.size;have c0:=rV.get (i:=0) (by omega);have W:=rV.get (i:=1) (by omega);have XV:=yh rV;have fS:=yh jY;clear hq bz rV jY vo f r;obtain⟨x0,rL⟩:=bP (X.getD 0 0);obtain⟨x1,jL⟩:=bP (X.getD 1 0);rw [<-rL] at c0;rw [<-jL] at W;rw [<-rL,<-jL] at lj;clear rL jL;go_wp2_with (at_builtin;refine cq rfl _ _ rfl q.heap.size (.slice none 0 0) [] (t:Int) rfl rfl (Own.nil q _) ?b1 ?b2 ?_);case b1=>simp
     case b2=>exact(bR q.heap.size)
     intro v4 w4 Fy eJ;obtain⟨J,jZ,vt,d0,d1⟩:=eQ (yh Fy) (yh eJ) eJ.size (cell_later eJ c0) (cell_later eJ W);clear Fy eJ c0 W;go_wp2_with (at_builtin;refine cq rfl _ _ rfl q.heap.size v4 _ x0 rfl rfl J.o ?b1 ?b2 ?_);case b1=>simp
     case b2=>exact vt
     intro v5 w5 BT fd;have K:=yh BT;have jr:=yh (jZ.o.trans (fd.mono (bR _)));have d1':=(World.cell?_of_block (fd.block g XV.o.lt)).trans d1;clear BT fd d0 d1 J jZ vt;go_wp2_with (at_builtin;refine cq rfl _ _ rfl q.heap.size v5 _ x1 rfl rfl K.o ?b1 ?b2 ?_);case b1=>simp
     case b2=>exact jr.o.size
     intro v6 w6 XW nL;have C:Yh (Own w6 q.heap.size v6 ([(t:Int),x0,x1] ++ bD 0 E)):=XW;have xG:=yh (jr.o.trans (nL.mono (bR _)));clear XW nL d1' K jr;obtain⟨P,hP⟩:∃P,P= [(t:Int),x0,x1]:=⟨_,rfl⟩;have S:P.length=3:=(by rw [hP];rfl);rw [<-hP] at C lj;clear hP;go_wp2;go_loopw [7,8,9] (λs v i wx=>∃m:Nat,m<=4/\i=iV m/\s=iV ((E / 256 ^ m:Nat):Int)/\Own wx q.heap.size v (P ++ bD m E)/\bW q wx) (λ_ _ i _=>4-(intOf i).toNat);case atStart=>exact⟨0,dL _,rfl,by simp,C.o,xG.o⟩
     case round=>
      clear C xG;obtain⟨m,hm,rfl,rfl,aA,ir⟩:=hrel;have bw:=yh aA;have f:=yh ir;have r:=ir.size;clear aA ir;by_cases ym:m<4
      .have BQ:(m:Int)<4:=(by omega);have e1:E / 256 ^ (m+1)=E / 256 ^ m / 256:=(by rw [Nat.div_div_eq_div_mul,Nat.pow_succ]);have e2:=i9 m E;rw [show (2:Nat) ^ (8*m)=256 ^ m by rw [Nat.pow_mul]] at e2;have hQ:E / 256 ^ m<4294967296:=Nat.lt_of_le_of_lt (Nat.div_le_self _ _) O;generalize E / 256 ^ m=Q at*;have q1:((Q:Int)).tmod 256=((Q%256:Nat):Int):=(by rw [yI (by omega)];omega);have q2:((Q:Int)).tdiv 256=((Q / 256:Nat):Int):=(by rw [Int.tdiv_eq_ediv_of_nonneg (by omega)];omega);obtain⟨PM,Mp⟩:=bV e1 e2;have j8:(P ++ bD m E).length=3+m:=(by rw [ee,S,aK]);clear e1 e2;go_wp2_with (at_builtin;refine cq rfl _ _ rfl q.heap.size u8 _ _ rfl rfl bw.o ?b1 ?b2 ?_);case b1=>omega
       case b2=>exact r
       intro z w' p eI;have u:Yh (Own w' q.heap.size z (P ++ bD (m+1) E)):=(by rw [Mp.o];first|exact p|(rw [<-rG];exact p));have xF:=yh (f.o.trans (eI.mono (bR _)));clear p eI bw f Mp;go_wp2;go_roundw;case rel=>exact⟨m+1,by omega,by go_num,by rw [PM.o];simp,u.o,xF.o⟩
       case measure=>simp [intOf];omega
      .have BQ:¬(m:Int)<4:=(by omega);obtain rfl:m=4:=(by omega);obtain⟨R,hR⟩:=bP (P ++ bD 4 E);have hRl:R.length=7:=(by rw [hR,ee,S,aK]);rw [<-hR] at bw lj;have i8:Yh (Own wr q.heap.size u8 (R ++ (X.drop 2).take 0)):=(by show Own wr q.heap.size u8 (R ++ []);rw [List.append_nil];exact bw.o);clear hR bw hm;go_wp2;go_loopw [8,10] (λv i wx=>∃m:Nat,m<=504/\i=iV ((m+2:Nat):Int)/\Own wx q.heap.size v (R ++ (X.drop 2).take m)/\bW q wx) (λ_ i _=>506-(intOf i).toNat);case atStart=>exact⟨0,dL _,rfl,i8.o,f.o⟩
       case round=>
        clear i8 f r;obtain⟨m,hm,rfl,aA,ir⟩:=hrel;have bw:=yh aA;have f:=yh ir;have r:=ir.size;clear aA ir;have Nt:(X.drop 2).length=504:=(by simp;omega);have j8:(R ++ (X.drop 2).take m).length=7+m:=(by rw [ee,hRl,oj];omega);by_cases ym:m<504
        .have BQ:((m+2:Nat):Int)<506:=(by omega);have hcx:=cell_later f.o (XV.o.get (i:=m+2) (by omega));have eN:=kf (X.drop 2) m (by omega);have eX:(X.drop 2).getD m 0=X.getD (m+2) 0:=(by simp [List.getD,Nat.add_comm]);rw [eX] at eN;have CK:=yh eN;clear eN eX;generalize X.getD (m+2) 0=x at*;generalize hM:m+2=M at*;have HM:=yh hM;clear hM;go_wp2_with (at_builtin;refine cq rfl _ _ rfl q.heap.size u8 _ x rfl rfl bw.o ?b1 ?b2 ?_);case b1=>omega
         case b2=>exact r
         intro z w' p eI;have u:Yh (Own w' q.heap.size z (R ++ (X.drop 2).take (m+1))):=(by rw [<-CK.o];first|exact p|(rw [<-rG];exact p));have xF:=yh (f.o.trans (eI.mono (bR _)));clear p eI bw f CK;go_wp2;go_roundw;case rel=>exact⟨m+1,by omega,by have:=HM.o;subst this;go_num,u.o,xF.o⟩
         case measure=>have:=HM.o;simp [intOf];omega
        .obtain rfl:m=504:=(by omega);have e5:(X.drop 2).take 504=X.drop 2:=nC (by omega);rw [e5] at bw j8;obtain⟨Y,hY⟩:=bP (R ++ X.drop 2);rw [<-hY] at bw j8 lj;clear hY e5;go_wp2_with (at_builtin;refine cq rfl _ _ rfl q.heap.size u8 _ (t:Int) rfl rfl bw.o ?b1 ?b2 ?_);case b1=>omega
         case b2=>exact r
         intro z w' p eI;have u:Yh (Own w' w.heap.size z (bh t body)):=(by rw [lj.o];exact Own.down p lq);have xF:Yh (bW w w'):=fS.o.trans ((f.o.trans (eI.mono (bR _))).mono lq);clear p eI bw f;go_wp2;go_ret;exact⟨_,rfl,u.o,xF.o⟩
def JW {a b:Int}:∀k:Nat,k<cG a b->(k:Int)=a\/(k:Int)=b:=by
 intro k c;unfold cG at c;split at c
 .omega
 .split at c
  .next h1 h2=>omega
  .next h1 h2=>omega
def Nu (a:Option Addr) (n c:Nat) (b:Option Addr) (m d:Nat) (w:World) (g:n≠512):
  Calls prog 177 #[.slice a n c, .slice b m d] w λe w'=>e= .returned (.tuple #[.slice none 0 0,iV 2])/\w'=w:=by
 have f:(((n:Int)) != 512)=true:=by rw [gg];omega
 go_in;go_wp2;go_ret2;exact⟨rfl,rfl⟩
def Nv (a:Option Addr) (c:Nat) (b:Option Addr) (m d:Nat) (w:World) (f:504<m):
  Calls prog 177 #[.slice a 512 c, .slice b m d] w λe w'=>e= .returned (.tuple #[.slice none 0 0,iV 7])/\w'=w:=by
 have hm':504<(m:Int):=by omega
 go_in;go_wp2;go_ret2;exact⟨rfl,rfl⟩
def Q2 (b o c:Nat) (old:List Int) (d:Option Addr) (m l:Nat) (body:List Int) (w:World) (n:Src w (some (aD b o)) 512 old) (br:Src w d m body) (C:m<=504) (u:Bytes body) (Mq:Bytes old):
  Calls prog 177 #[.slice (some (aD b o)) 512 c, .slice d m l] w λe w'=>∃v,e= .returned (.tuple #[v,iV 0])/\Own w' w.heap.size v (bh (cG (old.getD 0 0) (old.getD 511 0)) body)/\bW w w':=by
 have hm':¬504<(m:Int):=by omega
 have j:=n.2.2 _ rfl 0 (by omega);have r:=n.2.2 _ rfl 511 (by omega);rw [aN] at j r;rw [Nat.add_zero] at j;have A:=gw (old.getD 0 0) (old.getD 511 0);have q:=(JW (a:=old.getD 0 0) (b:=old.getD 511 0));have g:=(CC (old.getD 0 0) (old.getD 511 0));have z:=(λt (E:t<256)=>CJ t d m l body w E br C u);obtain⟨H,I⟩:=Mq.getD 0;obtain⟨J,K⟩:=Mq.getD 511;generalize old.getD 0 0=x at*;generalize old.getD 511 0=y at*;generalize cG x y=t at*;go_in;go_wp2;go_loopw [6] (λi wr=>∃k:Nat,k<=t/\i=iV k/\wr=w) (λi _=>t-(intOf i).toNat);case atStart=>exact⟨0,dL _,rfl,rfl⟩
 case round=>
  obtain⟨k,G,rfl,rfl⟩:=hrel;by_cases bq:k<t
  .by_cases f:(k:Int)=x
   .have p:(x == (k:Int))=true:=(by rw [beq_iff_eq];exact f.symm);go_wp2;go_roundw;case rel=>exact⟨k+1,by omega,by go_num,trivial⟩
    case measure=>simp [intOf];omega
   .have s:=(q k bq).resolve_left f;have p:(x == (k:Int))=false:=(by rw [fy];exact λh=>f h.symm);have F:(y == (k:Int))=true:=(by rw [beq_iff_eq];exact s.symm);go_wp2;go_roundw;case rel=>exact⟨k+1,by omega,by go_num,trivial⟩
    case measure=>simp [intOf];omega
  .obtain rfl:k=t:=(by omega);have p:(x == (k:Int))=false:=(by rw [fy];exact λh=>g.1 h.symm);have F:(y == (k:Int))=false:=(by rw [fy];exact λh=>g.2 h.symm);go_wp2_with fail;refine(z k (by omega)).mono ?_;rintro e w1 ⟨v,rfl,D,ar⟩;go_wp2;go_ret2;exact⟨v,rfl,aH D ar⟩
def cZ (h:Src w a n l) (c:0<n):∃b o,a=some (aD b o):=by
 cases a with
 |none=>have:=h.2.1 rfl;omega
 |some x=>
  obtain⟨b,o,rfl,_⟩:=h.spot c;exact⟨b,o,rfl⟩
def Q3 (a:Option Addr) (n c:Nat) (old:List Int) (d:Option Addr) (m f:Nat) (body:List Int) (w:World) (i:Src w a n old) (br:Src w d m body) (k:Bytes body):
  Calls prog 236 #[.slice a n c, .slice d m f] w λe w'=>∃v,e= .returned (.tuple #[v,iV (((gy old body).2:Nat):Int)])/\yo w' w.heap.size v (gy old body).1/\bW w w':=by
 have r:=i.1;have s:=br.1;by_cases j:n=512
 .subst j;obtain⟨b,o,rfl⟩:=cZ i (by omega);by_cases q:504<m
  .refine(QX b o c old d m f w i q).mono ?_;rintro e w' ⟨rfl,iR⟩;have e:gy old body=([],7):=(by unfold gy;rw [aB (by omega),aG (by omega)]);rw [e];exact⟨_,rfl,yo.nil _ _,iR⟩
  .refine(VB b o c old d m f body w i br (by omega) k).mono ?_;rintro e w' ⟨g,rfl,aV,l,iR⟩;have e:gy old body=(bh (cG (old.getD 0 0) (old.getD 511 0)) body,0):=(by unfold gy;rw [aB (by omega),aB (by omega)]);rw [e];have p:(bh (cG (old.getD 0 0) (old.getD 511 0)) body).length=512:=fx (by omega);have:=aV.lst l;rw [p] at this;exact⟨_,rfl,this,iR⟩
 .refine(QW a n c d m f w j).mono ?_;rintro e w' ⟨rfl,iR⟩;have e:gy old body=([],2):=by unfold gy;rw [aG (by omega)]
  rw [e];exact⟨_,rfl,yo.nil _ _,iR⟩
def qW (a:Option Addr) (n c:Nat) (old:List Int) (d:Option Addr) (m f:Nat) (body:List Int) (w:World) (g:Src w a n old) (br:Src w d m body) (j:Bytes body) (Mq:Bytes old):
  Calls prog 177 #[.slice a n c, .slice d m f] w λe w'=>∃v,e= .returned (.tuple #[v,iV (((gy old body).2:Nat):Int)])/\Own w' w.heap.size v (gy old body).1/\bW w w':=by
 have p:=g.1;have q:=br.1;by_cases i:n=512
 .subst i;obtain⟨b,o,rfl⟩:=cZ g (by omega);by_cases k:504<m
  .refine(Nv (some (aD b o)) c d m f w k).mono ?_;rintro e w' ⟨rfl,rfl⟩;have e:gy old body=([],7):=(by unfold gy;rw [aB (by omega),aG (by omega)]);rw [e];exact⟨_,rfl,Own.nil _ _,bi _ _⟩
  .refine(Q2 b o c old d m f body w g br (by omega) j Mq).mono ?_;rintro e w' ⟨v,rfl,l,iR⟩;have e:gy old body=(bh (cG (old.getD 0 0) (old.getD 511 0)) body,0):=(by unfold gy;rw [aB (by omega),aB (by omega)]);rw [e];exact⟨_,rfl,l,iR⟩
 .refine(Nu a n c d m f w i).mono ?_;rintro e w' ⟨rfl,rfl⟩;have e:gy old body=([],2):=by unfold gy;rw [aG (by omega)]
  rw [e];exact⟨_,rfl,Own.nil _ _,bi _ _⟩
def Q4 (a b:Option Addr) (n m c d:Nat) (w:World) (h:n≠m):
  Calls prog 229 #[.slice a n c, .slice b m d] w λe w'=>e= .returned (.bool false)/\w'=w:=by
 have f:(((n:Int)) != (m:Int))=true:=by rw [gg];omega
 go_in;go_wp2;go_ret;exact⟨rfl,rfl⟩
def Nx (b o m p:Nat) (n c d:Nat) (l a:List Int) (w:World) (z:n<=140737488355328) (v:l.length=n) (UB:a.length=n) (r:∀i,i<n->w.cell? ⟨b,o+i,none⟩=some (.int .u8 (l.getD i 0))) (s:∀i,i<n->w.cell? ⟨m,p+i,none⟩=some (.int .u8 (a.getD i 0))):
  Calls prog 229 #[.slice (some (aD b o)) n c, .slice (some (aD m p)) n d] w λe w'=>e= .returned (.bool (decide (l=a)))/\bW w w':=by
 go_in;go_wp2;go_loopw [5] (λi wr=>∃k:Nat,k<=n/\i=iV k/\l.take k=a.take k/\bW w wr) (λi _=>n-(intOf i).toNat);case atStart=>exact⟨0,dL _,rfl,by simp,bi _ _⟩
 case round=>
  obtain⟨k,u,rfl,pO,f⟩:=hrel;have VE:=yh pO;by_cases bq:k<n
  .have q:=cell_later f ((yh r).out k bq);have t:=cell_later f ((yh s).out k bq);have cC:(k:Int)<(n:Int):=(by omega);by_cases g:l.getD k 0=a.getD k 0
   .have j:=yh (D0 VE.o (by omega) (by omega) g);rw [g] at q;generalize a.getD k 0=x at*;go_wp2;go_quiet (fail);go_wp2;go_roundw;case rel=>exact⟨k+1,by omega,by go_num,j.o,below_drewN f _⟩
    case measure=>simp [intOf];omega
   .have dM:=JS g;have hd:Yh (decide (l=a)=false):=(by show decide (l=a)=false;simp [dM]);have Mr:((l.getD k 0) != (a.getD k 0))=true:=(by rw [gg];exact g);generalize a.getD k 0=x at*;generalize l.getD k 0=y at*;go_wp2;go_quiet (fail);go_wp2;go_ret;exact⟨by rw [hd.out];rfl,below_drewN f _⟩
  .have cC:¬(k:Int)<(n:Int):=(by omega);have hd:Yh (decide (l=a)=true):=by
    have:=VE.o;rw [nC (by omega),nC (by omega)] at this;show decide (l=a)=true;simp [this]
   go_wp2;go_ret;exact⟨by rw [hd.out];rfl,f⟩
def JX (a b:Option Addr) (c d:Nat) (w:World):
  Calls prog 229 #[.slice a 0 c, .slice b 0 d] w λe w'=>e= .returned (.bool true)/\w'=w:=by
 go_in;go_wp2;refine wp_loop_rounds 1 ?_;rw [rounds_succ];go_wp2;go_ret;exact⟨rfl,rfl⟩
def Ny (a b:Option Addr) (n m c d:Nat) (l i:List Int) (w:World) (q:n<=140737488355328) (f:Src w a n l) (g:Src w b m i):
  Calls prog 229 #[.slice a n c, .slice b m d] w λe w'=>e= .returned (.bool (decide (l=i)))/\bW w w':=by
 by_cases xH:n=m
 .subst xH;by_cases h0:n=0
  .subst h0;have o:=yH f.1;have p:=yH g.1;subst o p;exact(JX a b c d w).mono (by rintro e w' ⟨rfl,rfl⟩;exact⟨rfl,bi _ _⟩)
  .cases a with
   |none=>exact absurd (f.2.1 rfl) h0
   |some x=>
    cases b with
    |none=>exact absurd (g.2.1 rfl) h0
    |some y=>
     obtain⟨j,t,rfl,r⟩:=f.spot (by omega);obtain⟨k,u,rfl,s⟩:=g.spot (by omega);exact Nx j t k u n c d l i w q f.1 g.1 r s
 .have hd:decide (l=i)=false:=by
   have:l≠i:=λe=>xH (by rw [<-f.1,<-g.1,e]);simp [this]
  rw [hd];exact(Q4 a b n m c d w xH).mono (by rintro e w' ⟨rfl,rfl⟩;exact⟨rfl,bi _ _⟩)
def zg {s:List Int} (h:s.length≠512):aX s=([],2):=by unfold aX;rw [aG h]
def kL {s:List Int} (h:s.length=512) (a:fC s=none):aX s=([],30):=by unfold aX;rw [aB (by omega),a]
def pW {s b:List Int} (h:s.length=512) (a:fC s=some b):aX s=(b,0):=by unfold aX;rw [aB (by omega),a]
def CN {s:List Int} (a:dP s<=504) (b:s.getD 0 0<=2) (c:bh (s.getD 0 0) (dJ s)=s):fC s=some (dJ s):=by unfold fC;rw [aG ⟨a,b,c⟩]
def tS {s:List Int} (h:¬(dP s<=504/\s.getD 0 0<=2/\bh (s.getD 0 0) (dJ s)=s)):fC s=none:=by unfold fC;rw [aB h]
def D6 {s:List Int} (h:Bytes s):((dP s:Nat):Int)=s.getD 1 0+256*s.getD 2 0:=by
 have a:=h.getD 1;have b:=h.getD 2;unfold dP;omega
def Nz (a:Option Addr) (n c:Nat) (w:World) (d:n≠512):
  Calls prog 199 #[.slice a n c] w λe w'=>e= .returned (.tuple #[.slice none 0 0,iV 2])/\bW w w':=by
 have b:(((n:Int)) != 512)=true:=by rw [gg];omega
 go_in;go_wp2;go_ret2;exact⟨rfl,(yh (bi w.heap.size w)).out⟩
def CO (b o c:Nat) (s:List Int) (w:World) (A:Src w (some (aD b o)) 512 s) (m:Bytes s):
  Calls prog 199 #[.slice (some (aD b o)) 512 c] w λe w'=>∃v,e= .returned (.tuple #[v,iV (((aX s).2:Nat):Int)])/\Own w' w.heap.size v (aX s).1/\bW w w':=by
 have vu:=A.1;have a:=λi hi=>by have:=A.2.2 _ rfl i hi;rwa [aN] at this
 have l:=a 0 (by omega);rw [Nat.add_zero] at l;have L:=a 1 (by omega);have M:=a 2 (by omega);have DI:bW w w:=bi _ w;have J:=D6 m;have u:=m.getD 0;have y:=m.getD 1;have z:=m.getD 2;obtain⟨p,rL⟩:=bP (s.getD 0 0);obtain⟨q,jL⟩:=bP (s.getD 1 0);obtain⟨r,mq⟩:=bP (s.getD 2 0);obtain⟨N,I⟩:=bP (dP s);rw [<-jL,<-mq,<-I] at J;rw [<-rL] at l u;rw [<-jL] at L y;rw [<-mq] at M z;obtain⟨W,X,Zl,Y,Z,h21,K,C,f,D,S⟩:=Mf u.1 u.2 y.1 y.2 z.1 z.2 (yh a) (yh (λj=>below_drewN DI j)) (yh rL) (yh I) (yh A);clear a rL jL mq I A DI u y z;by_cases D7:504<N\/2<p
 .have jd:=kL vu (tS (λh=>by rw [<-D.o,<-f.o] at h;omega));have om:=yh jd;clear jd;by_cases ar:504<N
  .have acY:504<q+256*r:=(by omega);go_in;go_wp2;go_quiet (fail);go_wp2;go_ret2;exact⟨_,by rw [om.o];rfl,by rw [om.o];exact Own.nil _ _,C.o _⟩
  .have acY:¬504<q+256*r:=(by omega);have bd:2<p:=(by omega);go_in;go_wp2;go_quiet (fail);go_wp2;go_ret2;exact⟨_,by rw [om.o];rfl,by rw [om.o];exact Own.nil _ _,C.o _⟩
 .have acY:¬504<q+256*r:=by omega
  have bd:¬2<p:=by omega
  go_in;go_wp2;go_quiet (fail);go_wp2;go_loopw [5,6] (λv i wr=>∃k:Nat,k<=N/\i=iV k/\Own wr w.heap.size v ((s.drop 7).take k)/\bW w wr) (λ_ i _=>N-(intOf i).toNat);case atStart=>exact⟨0,dL _,rfl,Own.nil _ _,C.o _⟩
  case round=>
   clear l L M;obtain⟨k,hk,rfl,aA,ey⟩:=hrel;have bw:=yh aA;have mr:=yh ey;have hz:=ey.size;clear aA ey;have qV:(s.drop 7).length=505:=(by simp;omega);by_cases bq:k<N
   .have cC:(k:Int)<q+256*r:=(by omega);have hc:=cell_later mr.o (K.o (7+k) (by omega));have G:=kf (s.drop 7) k (by omega);have O:(s.drop 7).getD k 0=s.getD (7+k) 0:=(by simp [List.getD]);rw [O] at G;have CK:=yh G;have j8:((s.drop 7).take k).length<=505:=(by rw [oj];omega);clear G O;generalize s.getD (7+k) 0=x at*;go_wp2_with (at_builtin;refine cq rfl _ _ rfl w.heap.size u5 _ x rfl rfl bw.o ?b1 ?b2 ?_);case b1=>omega
    case b2=>exact hz
    intro v' w' Q eI;have R:Yh (Own w' w.heap.size v' ((s.drop 7).take (k+1))):=(by rw [<-CK.o];exact Q);have xF:=yh (mr.o.trans (eI.mono (bR _)));clear Q eI bw mr CK;go_wp2;go_roundw;case rel=>exact⟨k+1,by omega,by go_num,R.o,xF.o⟩
    case measure=>simp [intOf];omega
   .obtain rfl:k=N:=(by omega);have cC:¬(k:Int)<q+256*r:=(by omega);have H:(s.drop 7).take k=dJ s:=(by unfold dJ;rw [<-D.o]);rw [H] at bw;have lF:(dJ s).length=k:=(by rw [<-H,oj];omega);have gN:Bytes (dJ s):=(m.drop _).take _;have E:=yh lF;obtain⟨T,F,rfl,sB,_,_⟩:=bw.o.src;rw [lF] at sB bw⊢;clear lF;have l:=cell_later mr.o (K.o 0 (by omega));rw [Nat.add_zero,<-f.o] at l;obtain⟨t,rfl⟩:∃t:Nat,p=(t:Int):=⟨p.toNat,by omega⟩;have P:=CJ t T k F (dJ s) wr (by omega) sB (by omega) gN;clear H sB;go_wp2_with fail;refine P.mono ?_;rintro e w2 ⟨v2,rfl,jw,bd⟩;have j1:(bh t (dJ s)).length=512:=fx (by rw [E.o];omega);obtain⟨p2,U,rfl,br,_,_⟩:=jw.src;rw [j1] at*;have eV:=mr.o.trans (bd.mono mr.o.size);have lG:=Ny p2 (some (aD b o)) 512 512 U c (bh t (dJ s)) s w2 (by omega) br (S.o.later eV);have dZ:=yh eV;have i8:=yh (Own.later bw.o bd);clear P jw bd br eV bw mr;by_cases d:bh t (dJ s)=s
    .rw [decide_eq_true d] at lG;have n:=pW vu (CN (by rw [<-D.o];omega) (by rw [<-f.o];omega) (by rw [<-f.o];exact d));have g:=yh n;clear d n;go_wp2_with fail;refine bJ lG λw3 bz=>?_;obtain⟨fS,acZ⟩:=bV (dZ.o.trans (bz.mono dZ.o.size)) (Own.later i8.o bz);clear lG bz;go_wp2;go_ret2;exact⟨_,by rw [g.o];rfl,by rw [g.o];exact acZ.o,fS.o⟩
    .rw [decide_eq_false d] at lG;have n:=kL vu (tS (λh=>d (by have:=h.2.2;rwa [<-f.o] at this)));have g:=yh n;clear d n;go_wp2_with fail;refine bJ lG λw3 bz=>?_;have fS:=yh (dZ.o.trans (bz.mono dZ.o.size));clear lG bz;go_wp2;go_ret2;exact⟨_,by rw [g.o];rfl,by rw [g.o];exact Own.nil _ _,fS.o⟩
def qX (a:Option Addr) (n c:Nat) (s:List Int) (w:World) (f:Src w a n s) (g:Bytes s):
  Calls prog 199 #[.slice a n c] w λe w'=>∃v,e= .returned (.tuple #[v,iV (((aX s).2:Nat):Int)])/\Own w' w.heap.size v (aX s).1/\bW w w':=by
 by_cases d:n=512
 .subst d;obtain⟨b,o,rfl⟩:=cZ f (by omega);exact CO b o c s w f g
 .refine(Nz a n c w d).mono ?_;rintro e w' ⟨rfl,iR⟩;rw [zg (by rw [f.1];exact d)];exact⟨_,rfl,Own.nil _ _,iR⟩
def le2 {a b:Int} (c:0<=a) (d:0<=b):((le [a,b]:Nat):Int)=a+256*b:=by
 simp only [le];omega
def XX {s:List Int} (h:s.length=512):(s.drop 1).take 2= [s.getD 1 0,s.getD 2 0]:=by
 match s,h with
 |a :: b :: c :: r,_=>rfl
def kM {b o:Nat} (h:Src w (some (aD b o)) n l) {m:Nat} (d:i+m<=n):Src w (some ⟨b,o+i,none⟩) m ((l.drop i).take m):=
   ⟨by have:=h.1;simp;omega,(λe=>by cases e),λx c j a=>by
  cases c;have:=h.2.2 _ rfl (i+j) (by omega);rw [aN] at this⊢;rw [Nat.add_assoc,this];simp [List.getD,a]⟩
def yr (g o:Nat) (s:List Int) (w:World) (c:Src w (some (aD g o)) 512 s) (a:Bytes s) (D7:504<dP s\/2<s.getD 0 0):
  Calls prog 239 #[.pointer (some (aD g o))] w λe w'=>e= .returned (.tuple #[.slice none 0 0, .bool false])/\w'=w:=by
 have j:=kM c (i:=1) (m:=2) (by omega);have f:=vq g (o+1) 2 2 ((s.drop 1).take 2) w ((a.drop _).take _) j.1 (by omega) (λi p=>by have:=j.2.2 _ rfl i p;rwa [aN] at this);rw [XX c.1,le2 (a.getD 1).1 (a.getD 2).1,<-(D6 a)] at f;have k:=c.2.2 _ rfl 0 (by omega);rw [aN,Nat.add_zero] at k;have d:=a.getD 0;have l:=d.1;have n:=d.2;generalize s.getD 0 0=x at*;generalize dP s=N at*;clear c j d;go_in;go_wp2_with fail;refine(mB g o 1 3 w (by omega) (by omega)).mono ?_;rintro e w' ⟨rfl,b⟩;have eR:=b.symm;subst eR;clear b;go_wp2_with fail;refine bJ f λw' b=>?_;have eR:=b.symm;subst eR;clear b f;by_cases r:2<x
 .have UC:3<=x:=by omega
  go_wp2;go_ret2;exact⟨rfl,rfl⟩
 .have UC:¬3<=x:=by omega
  have q:504<(N:Int):=by omega
  go_wp2;go_ret2;exact⟨rfl,rfl⟩
def zh {P:Program} {a:Act} {e:Oper} {K:Act->Prop} (c:TypeId) (x:Operand) (j:e.op= .load c x)
    (b o:Nat) (m:a.eval x= .pointer (some (aD b o))) (cs:List Value) (d:TypeDesc) (f:∀w,C w->w.rangeAt b o cs)
    (k:P.underlying c=some d) (hd:d.isRow=true) (g:(P.info? c).map (·.size)=some cs.length) (i:K (a.put e.dst (.agg cs.toArray))):e.quiet P a C K:=
   ⟨_,λw l=>by
  unfold Oper.quietAt execOp;simp only [j,m,Instr.loadAt,Instr.sureAddr,Sem.run_bind,Sem.run_pure,Result.andThen_ok,run_loadVar_mid w b o c cs d (f w l) k hd g];exact⟨rfl,rfl⟩,i⟩
def D8 {a:Act} {b:Oper} {K:Act->Prop} (x y:Operand) (T:TypeId) (f:b.op= .binOp .eql 211 x y T)
    (l m:List Int) (g:a.eval x= .agg (bs l).toArray) (i:a.eval y= .agg (bs m).toArray) (d:l.length=512) (e:m.length=512) (c:K (a.put b.dst (.bool (decide (l=m))))):b.quiet prog a C K:=
   ⟨_,λw _=>by
  unfold Oper.quietAt execOp;simp only [f,g,i];have:=QL l m d e w x y;rw [Sem.run_bind,this];exact⟨rfl,rfl⟩,c⟩
def Gi (g o:Nat) (s:List Int) (w:World) (a:Src w (some (aD g o)) 512 s) (c:Bytes s) (j:dP s<=504) (D:s.getD 0 0<=2):
  Calls prog 239 #[.pointer (some (aD g o))] w λe w'=>∃k,e= .returned (.tuple #[.slice (some (aD g k)) (dP s) (dP s), .bool (decide (bh (s.getD 0 0) (dJ s)=s))])/\(0<dP s->k=o+7)/\bW w w':=by
 have y:=kM a (i:=1) (m:=2) (by omega);have v:=vq g (o+1) 2 2 ((s.drop 1).take 2) w ((c.drop _).take _) y.1 (by omega) (λi A=>by have:=y.2.2 _ rfl i A;rwa [aN] at this);rw [XX a.1,le2 (c.getD 1).1 (c.getD 2).1,<-(D6 c)] at v;have u:=a.2.2 _ rfl 0 (by omega);rw [aN,Nat.add_zero] at u;have I:=c.getD 0;have Q5:∃k,Src w (some (aD g k)) (dP s) (dJ s)/\(0<dP s->k=o+7)/\Calls prog 221 #[.pointer (some (aD g o)),iV 7,iV (7+(dP s:Int))] w λe w'=>e= .returned (.slice (some (aD g k)) (dP s) (dP s))/\w'=w:=by
  by_cases h0:dP s=0
  .have Jg:=QM g o 7 w (by omega);refine⟨o,⟨by rw [lV j a.1],(λe=>by cases e),λx D i A=>by omega⟩,λh=>by omega,?_⟩;rw [h0];exact Jg
  .have d:=mB g o 7 (7+dP s) w (by omega) (by omega);refine⟨o+7,kM a (i:=7) (m:=dP s) (by omega),λ_=>rfl,?_⟩;have G:7+dP s-7=dP s:=(by omega);rw [G] at d;have H:((7+dP s:Nat):Int)=7+(dP s:Int):=(by omega);rw [H] at d;exact d
 obtain⟨k,C,Jh,d⟩:=Q5;obtain⟨t,J⟩:∃t:Nat,s.getD 0 0=(t:Int):=⟨(s.getD 0 0).toNat,by omega⟩;have gN:Bytes (dJ s):=(c.drop _).take _;rw [J] at u D⊢;have E:(∀q:pR w,Calls prog 183 #[.int .u8 (t:Int), .slice (some (aD g k)) (dP s) (dP s)] q.to λe w'=>e= .returned (.agg (bs (bh t (dJ s))).toArray)/\Below q.to.heap.size q.to w'):=
  λq=>oD t (some (aD g k)) (dP s) (dP s) (dJ s) q.to (by omega) (C.later q.h) j gN
 have j1:(bh t (dJ s)).length=512:=fx (by rw [(lV j a.1)];exact j);have Bu:∀w',(∃q:pR w,w'=q.to)->w'.rangeAt g o (bs s):=λw' ⟨q,e⟩=>by rw [e];exact nK (a.later q.h)
 have F:∀q:pR w,q.to.cell? (aD g o)=some (.int .u8 (t:Int)):=λq=>cell_later q.h u;obtain⟨n,p,f,r,ac0⟩:=eQ Jh Bu j1 a.1 (jc (l:=s) a.1);clear a y I C Jh gN j1 Bu;obtain⟨R,z⟩:=bP (bh t (dJ s));rw [<-z] at E f⊢;clear z;generalize dP s=N at*;have tT:¬3<=(t:Int):=by omega
 go_in;go_wp2_with fail;refine(mB g o 1 3 w (by omega) (by omega)).mono ?_;rintro e w' ⟨rfl,b⟩;have eR:=b.symm;subst eR;clear b;go_wp2_with fail;refine bJ v λw' b=>?_;have eR:=b.symm;subst eR;clear b v;go_wp2_with fail;refine bJ d λw' b=>?_;have eR:=b.symm;subst eR;clear b d;go_wp2_with fail;have dM:=pR.some w;refine xD (by kernel_rfl) (by kernel_rfl) ?_
 repeat (first|go_big_quiet_skip|(go_big_quiet_want;go_big_quiet_op;first|go_big_quiet_on|(apply Exists.intro;refine⟨λq=>?_,?_⟩;exact Calls.QF (E q);go_big_quiet_on)))
 go_big_quiet_want
 refine zh 211 _ rfl g o rfl (bs s) _ p underlying211 rfl ac0 ?_;simp only [Act.put,jX,lT,ld]
 go_big_quiet_on
 go_big_quiet_want
 refine D8 _ _ _ rfl R s rfl rfl f r ?_;simp only [Act.put,jX,lT,ld]
 go_big_quiet_on
 repeat (go_big_quiet_want;go_big_quiet_op;go_big_quiet_on)
 refine wpQuiet_nil ?_;rintro _ ⟨q,rfl⟩;go_wp2;go_ret2;exact⟨k,rfl,n,q.h⟩
def NA (a:Option Addr) (n c:Nat) (w:World) (b:n≠512):
  Calls prog 225 #[.slice a n c] w λe w'=>e= .returned (.tuple #[.slice none 0 0,iV 2])/\bW w w':=by
 obtain⟨g,d,aW,dD⟩:=cP jl (pU a n c w b) zf ze;generalize bo=Z at*;have bX:Z.all Value.oneCell'=true:=all_oneCell_toArray dD;go_in;go_wp2_with fail;refine bJ d λw1 ar=>?_;have bT:(w1.alloc (.cells Z 211)).heap[w1.heap.size]? =some (.cells Z 211 (0,0)):=heap_alloc_new _ _;have eh:(w1.alloc (.cells Z 211)).there w1.heap.size 0 Z.toList.length:=cH bT (by simp);have bN:bW w (w1.alloc (.cells Z 211)):=ar.alloc ar.size _;have eM:=ar.size;have Bv:=(bN.trans ((aa.setCells (F:=λj=>j=w1.heap.size) rfl Z.toList 0 _).below (λj f=>by omega) bN.size));go_wp2_with (refine wpList_store_mid rfl 211 _ _ rfl w1.heap.size 0 Z rfl rfl ?h1 ?h2 bX ?_);case h1=>simpa using eh
 case h2=>simpa using aW
 go_ret2;exact⟨rfl,Bv⟩
def NB (b o c:Nat) (s:List Int) (w:World) (f:Src w (some (aD b o)) 512 s) (UD:Bytes s):
  Calls prog 225 #[.slice (some (aD b o)) 512 c] w λe w'=>∃v,e= .returned (.tuple #[v,iV (((aX s).2:Nat):Int)])/\yo w' w.heap.size v (aX s).1/\bW w w':=by
 obtain⟨D,el,aW,dD⟩:=cP jl (mC b o c s w f) (jc (l:=s) f.1) (cF s);have j8:(bs s).length=512:=by rw [bs,jF,f.1]
 have mX:=f.1;have bX:=all_oneCell_toArray dD;obtain⟨F,p⟩:=bP (bs s);rw [<-p] at el aW dD j8 bX;have z:=yh p;clear dD f p;go_in;go_wp2_with fail;refine bJ el λw1 ar=>?_;have bT:(w1.alloc (.cells bo 211)).heap[w1.heap.size]? =some (.cells bo 211 (0,0)):=heap_alloc_new _ _;have eh:=cH bT cT;rw [<-j8] at eh;have bN:bW w (w1.alloc (.cells bo 211)):=ar.alloc ar.size _;have eM:=ar.size;have eV:=bN.trans ((aa.setCells (F:=λj=>j=w1.heap.size) rfl F 0 _).below (λj C=>by omega) bN.size);have aV:=eO (l:=s) bT (by rw [cT,mX]);rw [<-z.o] at aV;obtain⟨q,dN⟩:=bP ((w1.alloc (.cells bo 211)).setCells w1.heap.size 0 F);rw [<-dN] at aV eV;have fV:Src q (some (aD w1.heap.size 0)) 512 s:=by
  have:=aV.src (o:=0) (n:=512) (by omega);rwa [List.drop_zero,nC (by omega)] at this
 obtain⟨dZ,Q6⟩:=bV eV fV;clear el bT bN ar aV eV fV;go_wp2_with (refine wpList_store_mid rfl 211 _ _ rfl w1.heap.size 0 F.toArray rfl rfl ?h1 ?h2 bX ?_);case h1=>simpa using eh
 case h2=>simpa using aW
 rw [<-dN];clear dN eh aW bX;by_cases D7:504<dP s\/2<s.getD 0 0
 .have jd:=kL mX (tS (λh=>by omega));have om:=yh jd;refine(yr w1.heap.size 0 s q Q6.o UD D7).mono ?_;rintro e w' ⟨rfl,t⟩;have eR:=t.symm;subst eR;clear t jd D7;go_wp2;go_ret2;exact⟨_,by rw [om.o];rfl,by rw [om.o];exact yo.nil _ _,dZ.o⟩
 .refine(Gi w1.heap.size 0 s q Q6.o UD (by omega) (by omega)).mono ?_;rintro e y ⟨k,rfl,r,bz⟩;have sB:Src y (some (aD w1.heap.size k)) (dP s) (dJ s):=by
   by_cases h0:dP s=0
   .exact⟨lV (by omega) mX,(λe=>by cases e),λx u i A=>by omega⟩
   .rw [r (by omega)];exact kM (Q6.o.later bz) (i:=7) (m:=dP s) (by omega)
  have fS:=yh (dZ.o.trans (bz.mono dZ.o.size));have lF:=lV (s:=s) (by omega) mX;have iU:yo y w.heap.size (.slice (some (aD w1.heap.size k)) (dP s) (dP s)) (dJ s):=⟨some (aD w1.heap.size k),dP s,by rw [lF],by rw [lF];exact sB,by omega,λx u=>by cases u;exact eM⟩;have ahV:=yh iU;clear sB iU r bz lF;by_cases a:bh (s.getD 0 0) (dJ s)=s
  .have g:=pW mX (CN (by omega) (by omega) a);have d:=yh g;rw [decide_eq_true a];clear a g;go_wp2;go_ret2;exact⟨_,by rw [d.o];rfl,by rw [d.o];exact ahV.o,fS.o⟩
  .have g:=kL mX (tS (λh=>a h.2.2));have d:=yh g;rw [decide_eq_false a];clear a g;go_wp2;go_ret2;exact⟨_,by rw [d.o];rfl,by rw [d.o];exact yo.nil _ _,fS.o⟩
def CP (a:Option Addr) (n c:Nat) (s:List Int) (w:World) (f:Src w a n s) (g:Bytes s):
  Calls prog 225 #[.slice a n c] w λe w'=>∃v,e= .returned (.tuple #[v,iV (((aX s).2:Nat):Int)])/\yo w' w.heap.size v (aX s).1/\bW w w':=by
 by_cases d:n=512
 .subst d;obtain⟨b,o,rfl⟩:=cZ f (by omega);exact NB b o c s w f g
 .refine(NA a n c w d).mono ?_;rintro e w' ⟨rfl,iR⟩;rw [zg (by rw [f.1];exact d)];exact⟨_,rfl,yo.nil _ _,iR⟩
def zj {old:List Int} (a:old.length=512) (b:body.length<=504):gy old body=(bh (cG (old.getD 0 0) (old.getD 511 0)) body,0):=by
 unfold gy;rw [aB (by omega),aB (by omega)]
def Own.full {B:Nat} (h:Own w B v l) (h0:0<l.length):∃g c,v= .slice (some (aD g 0)) l.length c/\B<=g/\ay w 5 g c (bs l):=h.VC h0
def bQ (l:List Int):List Int:=if l.length=512 then l else zs 512
def aT (l:List Int):(bQ l).length=512:=by unfold bQ;split;assumption;exact bH 512
def gO (h:l.length=512):bQ l=l:=by unfold bQ;rw [aG h]
def tU (a:Option Addr) (n c:Nat) (l:List Int) (w:World) (d:Src w a n l):
  Calls prog 218 #[.slice a n c] w λe w'=>e= .returned (.tuple #[.agg (bs (bQ l)).toArray, .bool (decide (n=512))])/\bW w w':=by
 by_cases f:n=512
 .subst f;cases a with
  |none=>have:=d.2.1 rfl;omega
  |some x=>
   obtain⟨b,o,rfl,_⟩:=d.spot (by omega);rw [gO d.1];exact mC b o c l w d
 .have e:bQ l=zs 512:=by unfold bQ;rw [aB (by rw [d.1];exact f)]
  rw [e,decide_eq_false f];exact pU a n c w f
def cW:Array Value:=(bs (zs 1024)).toArray
def Gj:(prog.info? 213).map (λi=>(i.zero,i.size))=some (some (.agg cW),1024):=by kernel_rfl
def kN (w:World):(zeroValue 213).run prog w= .ok (.agg cW) w:=by
 obtain⟨i,b,a⟩:=Option.map_eq_some_iff.1 Gj;simp only [Prod.mk.injEq] at a;simp [zeroValue,typeInfo,b,a.1]
def pX:(prog.info? 213).map (·.size)=some 1024:=by
 obtain⟨i,b,a⟩:=Option.map_eq_some_iff.1 Gj;simp only [Prod.mk.injEq] at a;rw [b,<-a.2];rfl
def dh:cW.size=1024:=by unfold cW;simp only [List.size_toArray,bs,jF,bH]
def DD:∀(vs:List Value) (k b:Nat) (a:Array Value),b+k+vs.length<=a.size->
    ((vs.zipIdx k).foldl (λcs (x:Value×Nat)=>cs.setIfInBounds (b+x.2) x.1) a).toList=a.toList.take (b+k) ++ vs ++ a.toList.drop (b+k+vs.length)
 | [],k,b,a,h=>by simp
 |v :: r,k,b,a,h=>by
  have c:b+k<a.toList.length:=by simp at h⊢;omega
  rw [List.zipIdx_cons,List.foldl_cons,DD r (k+1) b _ (by simp at h⊢;omega)];simp only [Array.toList_setIfInBounds];rw [show b+(k+1)=b+k+1 by omega,List.take_set,List.drop_set];rw [aG (by omega),List.take_succ_eq_append_getElem c,List.set_append_right _ _ (by simp;omega)];have:(b+k)-(a.toList.take (b+k)).length=0:=by simp;omega
  rw [this,ld];simp only [List.length_cons,rG,List.cons_append,List.nil_append];congr 4;omega
def Bg (F a:Array Value) (b:Nat) (h:b+F.size<=a.size):
    (F.zipIdx.foldl (λcs (x:Value×Nat)=>cs.setIfInBounds (b+x.2) x.1) a).toList=a.toList.take b ++ F.toList ++ a.toList.drop (b+F.size):=by
 rw [<-Array.foldl_toList,Array.toList_zipIdx];have:=DD F.toList 0 b a (by simpa using h);simpa using this
def JY (F G:Array Value) (a:F.size=512) (d:G.size=512) (w:World):
    (Instr.build 213 #[(0, .agg F),(1, .agg G)]).run prog w= .ok (.agg (F ++ G)) w:=by
 obtain⟨i,l,k⟩:=Option.map_eq_some_iff.1 D4;have m:=dh;have c:=Bg F cW (0*512) (by omega);have s1:(F.zipIdx.foldl (λcs (x:Value×Nat)=>cs.setIfInBounds (0*512+x.2) x.1) cW).size=1024:=by
  rw [<-Array.length_toList,c];simp;omega
 have j:=Bg G (F.zipIdx.foldl (λcs (x:Value×Nat)=>cs.setIfInBounds (0*512+x.2) x.1) cW) (1*512) (by omega);have b:Instr.fill (λi=>some (i*512,512)) cW [(0, .agg F),(1, .agg G)]=some (F ++ G):=by
  have e:(Value.agg F).cells=F:=rfl;have f:(Value.agg G).cells=G:=rfl;simp only [Instr.fill,e,f,a,d,m];rw [aB (by simp),aB (by simp only [ne_eq,not_true,decide_false,Bool.false_or,decide_eq_true_eq];omega)];refine congrArg some ?_;apply Array.ext';rw [j,c];have rW:F.toList.length=512:=by simpa using a
  simp only [Nat.zero_mul,List.take_zero,List.nil_append,Nat.zero_add,Nat.one_mul,a,d];rw [List.take_left' rW,List.drop_eq_nil_of_le (by simp;omega)];simp
 have g:(Value.agg cW).cells=cW:=rfl;simp only [Instr.build,Sem.run_bind,kN,Result.andThen_ok,run_underlying underlying213,g];have eM:(sizeOf 211).run prog w= .ok 512 w:=by simp [sizeOf,typeInfo,l,k]
 rw [eM,Result.andThen_ok,b];rfl
def oE {F:List Value} (h:F.length=512):(prog.info? 211).map (·.size)=some F.length:=by rw [D4,h]
def mD {b:Array Oper} {rest:List Oper} {c:Oper} {a:Act} {Q:Exit->Act->World->Prop} (Gh:c.guard=none) (x y:Operand) (k:c.op= .build 213 #[(0,x),(1,y)])
    (F G P:Array Value) (l:a.eval x= .agg F) (m:a.eval y= .agg G) (d:F.size=512) (f:G.size=512) (j:P=F ++ G)
    (h:wpList prog b Q rest (a.put c.dst (.agg P)) w):wpList prog b Q (c :: rest) a w:=
 wpList_plain Gh λK g=>by
  subst j;unfold Oper.wp execOp;simp only [k];have e:(#[(0,x),(1,y)]:Array (Nat×Operand)).map (λ(i,o)=>(i,a.eval o))= #[(0, .agg F),(1, .agg G)]:=by simp [l,m]
  rw [e,Sem.run_bind,(JY F G d f w)];exact g _ _ h
def JZ (C E:Bool) (F G:List Value) (q:F.length=512) (r:G.length=512) (g:∀v∈F,v.oneCell'=true) (i:∀v∈G,v.oneCell'=true) (x y:Value) (w:World)
    (Bo:∀w':World,bW w w'->Calls prog 218 #[x] w' λe BI=>e= .returned (.tuple #[.agg F.toArray, .bool C])/\bW w' BI)
    (BP:∀w':World,bW w w'->Calls prog 218 #[y] w' λe BI=>e= .returned (.tuple #[.agg G.toArray, .bool E])/\bW w' BI):
  Calls prog 180 #[x,y] w λe w'=>e= .returned (.tuple #[.agg (F.toArray ++ G.toArray), .bool (C && E)])/\bW w w':=by
 cases C
 .have H:=jl;have l:F.toArray.size=512:=by simpa using q
  have m:G.toArray.size=512:=by simpa using r
  have sD:=oE q;have sE:=oE r;have zk:(prog.info? 213).map (·.size)=some (F.toArray ++ G.toArray).size:=by rw [pX];simp;omega
  have Q7:=all_oneCell_toArray g;have Q9:=all_oneCell_toArray i;have Gk:(F.toArray ++ G.toArray).all (·.oneCell')=true:=by
   have:=all_oneCell_toArray (cs:=F ++ G) (λv n=>(List.mem_append.1 n).elim (g v) (i v));simpa using this
  have bN:bW w (w.alloc (.cells cW 213)):=(bi _ w).alloc (bR _) _;have u:=Bo _ bN;have cQ:=yh bN;have Gl:(w.alloc (.cells cW 213)).heap[w.heap.size]? =some (.cells cW 213 (0,0)):=heap_alloc_new _ _;obtain⟨Gm,c⟩:=bV Gl BP;have bT:w.heap.size<(w.alloc (.cells cW 213)).heap.size:=by simp
  clear bN Bo BP Gl;go_in;go_wp2_with fail;refine bJ u λw1 ar=>?_;have eV:=cQ.o.trans (ar.mono cQ.o.size);have kO:=(ar.block w.heap.size bT).trans Gm.o;have dE:=eV.size;have sy:=iL bT ar.size;have iu:(w1.alloc (.cells bo 211)).heap[w1.heap.size]? =some (.cells bo 211 (0,0)):=heap_alloc_new _ _;have eh:=cH iu cT;rw [<-q] at eh;have jY:bW w (w1.alloc (.cells bo 211)):=eV.alloc dE _;have rK:=jY.trans ((aa.setCells (F:=λj=>j=w1.heap.size) rfl F 0 _).below (λj t=>by omega) jY.size);have Zz:=World.rangeAt_setCells_same (w1.alloc (.cells bo 211)) w1.heap.size 0 F eh;have zl:((w1.alloc (.cells bo 211)).setCells w1.heap.size 0 F).heap[w.heap.size]? =some (.cells cW 213 (0,0)):=
     ((aa.setCells (F:=λj=>j=w1.heap.size) rfl F 0 _).block w.heap.size (by simp;omega) (by omega)).trans ((heap_alloc_old w1 _ sy).trans kO)
  have jD:((w1.alloc (.cells bo 211)).setCells w1.heap.size 0 F).heap.size=w1.heap.size+1:=by rw [mW];simp
  obtain⟨A,dN⟩:=bP ((w1.alloc (.cells bo 211)).setCells w1.heap.size 0 F);rw [<-dN] at rK Zz zl jD;obtain⟨z,ff,jZ,d,Gn⟩:=eQ (c.o A rK) (yh dN) (yh rK) (yh Zz) (yh zl);clear u ar eV kO iu jY rK Zz zl dN c cQ Gm;go_wp2_with (refine wpList_store_mid rfl 211 _ _ rfl w1.heap.size 0 F.toArray rfl rfl ?h1 ?h2 Q7 ?_);case h1=>simpa using eh
  case h2=>simpa using sD
  rw [<-ff.o];refine bJ z λb bz=>?_;have JU:=jZ.o.trans (bz.mono jZ.o.size);have wJ:=(bz.block w.heap.size (by omega)).trans Gn.o;have lq:=JU.size;have FR:=bz.size;have pY:(b.alloc (.cells bo 211)).heap[b.heap.size]? =some (.cells bo 211 (0,0)):=heap_alloc_new _ _;have J0:=cH pY cT;rw [<-r] at J0;have Bv:bW w (b.alloc (.cells bo 211)):=JU.alloc lq _;have BU:=Bv.trans ((aa.setCells (F:=λj=>j=b.heap.size) rfl G 0 _).below (λj t=>by omega) Bv.size);have ZA:=World.rangeAt_setCells_same (b.alloc (.cells bo 211)) b.heap.size 0 G J0;have J1:((b.alloc (.cells bo 211)).setCells b.heap.size 0 G).rangeAt w1.heap.size 0 F:=by
   intro j v n;rw [World.cell?_of_block (w:=A) (a:=⟨w1.heap.size,0+j,none⟩)]
   .exact(d.o j v n)
   .exact((aa.setCells (F:=λj=>j=b.heap.size) rfl G 0 _).block w1.heap.size (by simp;omega) (by omega)).trans ((heap_alloc_old b _ (show w1.heap.size<b.heap.size by omega)).trans (bz.block w1.heap.size (by omega)))
  have rU:((b.alloc (.cells bo 211)).setCells b.heap.size 0 G).heap[w.heap.size]? =some (.cells cW 213 (0,0)):=
     ((aa.setCells (F:=λj=>j=b.heap.size) rfl G 0 _).block w.heap.size (by simp;omega) (by omega)).trans ((heap_alloc_old b _ (show w.heap.size<b.heap.size by omega)).trans wJ)
  obtain⟨p,pA⟩:=bP ((b.alloc (.cells bo 211)).setCells b.heap.size 0 G);rw [<-pA] at BU ZA J1 rU;have J2:p.there w.heap.size 0 (F.toArray ++ G.toArray).toList.length:=cH rU (by rw [dh];simp;omega);have f:=yh (World.rangeAt_setCells_same p w.heap.size 0 (F.toArray ++ G.toArray).toList J2);obtain⟨NC,Ji⟩:=bV (BU.trans ((aa.setCells (F:=λj=>j=w.heap.size) rfl (F.toArray ++ G.toArray).toList 0 p).below (λj t=>by omega) BU.size)) pA;have tV:(prog.info? 213).map (·.size)=some (F.toArray ++ G.toArray).toList.length:=by rw [pX];simp;omega
  obtain⟨P,k⟩:=bP (F.toArray ++ G.toArray);rw [<-k] at zk Gk J2 f NC tV;have s:=yh k;clear z bz JU wJ pY Bv BU rU pA k jZ d Gn ff;go_wp2_with (first|refine mD rfl _ _ rfl F.toArray G.toArray P rfl rfl l m s.o ?_|refine wpList_store_mid rfl 211 _ _ rfl b.heap.size 0 G.toArray rfl rfl ?h1 ?h2 Q9 ?_|(rw [<-Ji.o];first|refine wpList_load_mid rfl 211 _ rfl w1.heap.size 0 rfl F _ J1 underlying211 rfl sD ?_|refine wpList_load_mid rfl 211 _ rfl b.heap.size 0 rfl G _ ZA underlying211 rfl sE ?_)|refine wpList_load_mid rfl 211 _ rfl w1.heap.size 0 rfl F _ J1 underlying211 rfl sD ?_|refine wpList_load_mid rfl 211 _ rfl b.heap.size 0 rfl G _ ZA underlying211 rfl sE ?_|refine wpList_store_mid rfl 213 _ _ rfl w.heap.size 0 P rfl rfl ?h3 ?h4 Gk ?_);case h1=>simpa using J0
  case h2=>simpa using sE
  case h3=>simpa using J2
  case h4=>simpa using zk
  have D:P.toList.toArray=(F ++ G).toArray:=by rw [s.o];simp
  exact bodyPost_ret (results_cell_tmp (P:=prog) rfl _ _ w.heap.size P.toList _ _ rfl rfl f.out underlying213 rfl tV) rfl ⟨by rw [D];rfl,NC.out⟩
 .have H:=jl;have l:F.toArray.size=512:=by simpa using q
  have m:G.toArray.size=512:=by simpa using r
  have sD:=oE q;have sE:=oE r;have zk:(prog.info? 213).map (·.size)=some (F.toArray ++ G.toArray).size:=by rw [pX];simp;omega
  have Q7:=all_oneCell_toArray g;have Q9:=all_oneCell_toArray i;have Gk:(F.toArray ++ G.toArray).all (·.oneCell')=true:=by
   have:=all_oneCell_toArray (cs:=F ++ G) (λv n=>(List.mem_append.1 n).elim (g v) (i v));simpa using this
  have bN:bW w (w.alloc (.cells cW 213)):=(bi _ w).alloc (bR _) _;have u:=Bo _ bN;have cQ:=yh bN;have Gl:(w.alloc (.cells cW 213)).heap[w.heap.size]? =some (.cells cW 213 (0,0)):=heap_alloc_new _ _;obtain⟨Gm,c⟩:=bV Gl BP;have bT:w.heap.size<(w.alloc (.cells cW 213)).heap.size:=by simp
  clear bN Bo BP Gl;go_in;go_wp2_with fail;refine bJ u λw1 ar=>?_;have eV:=cQ.o.trans (ar.mono cQ.o.size);have kO:=(ar.block w.heap.size bT).trans Gm.o;have dE:=eV.size;have sy:=iL bT ar.size;have iu:(w1.alloc (.cells bo 211)).heap[w1.heap.size]? =some (.cells bo 211 (0,0)):=heap_alloc_new _ _;have eh:=cH iu cT;rw [<-q] at eh;have jY:bW w (w1.alloc (.cells bo 211)):=eV.alloc dE _;have rK:=jY.trans ((aa.setCells (F:=λj=>j=w1.heap.size) rfl F 0 _).below (λj t=>by omega) jY.size);have Zz:=World.rangeAt_setCells_same (w1.alloc (.cells bo 211)) w1.heap.size 0 F eh;have zl:((w1.alloc (.cells bo 211)).setCells w1.heap.size 0 F).heap[w.heap.size]? =some (.cells cW 213 (0,0)):=
     ((aa.setCells (F:=λj=>j=w1.heap.size) rfl F 0 _).block w.heap.size (by simp;omega) (by omega)).trans ((heap_alloc_old w1 _ sy).trans kO)
  have jD:((w1.alloc (.cells bo 211)).setCells w1.heap.size 0 F).heap.size=w1.heap.size+1:=by rw [mW];simp
  obtain⟨A,dN⟩:=bP ((w1.alloc (.cells bo 211)).setCells w1.heap.size 0 F);rw [<-dN] at rK Zz zl jD;obtain⟨z,ff,jZ,d,Gn⟩:=eQ (c.o A rK) (yh dN) (yh rK) (yh Zz) (yh zl);clear u ar eV kO iu jY rK Zz zl dN c cQ Gm;go_wp2_with (refine wpList_store_mid rfl 211 _ _ rfl w1.heap.size 0 F.toArray rfl rfl ?h1 ?h2 Q7 ?_);case h1=>simpa using eh
  case h2=>simpa using sD
  rw [<-ff.o];refine bJ z λb bz=>?_;have JU:=jZ.o.trans (bz.mono jZ.o.size);have wJ:=(bz.block w.heap.size (by omega)).trans Gn.o;have lq:=JU.size;have FR:=bz.size;have pY:(b.alloc (.cells bo 211)).heap[b.heap.size]? =some (.cells bo 211 (0,0)):=heap_alloc_new _ _;have J0:=cH pY cT;rw [<-r] at J0;have Bv:bW w (b.alloc (.cells bo 211)):=JU.alloc lq _;have BU:=Bv.trans ((aa.setCells (F:=λj=>j=b.heap.size) rfl G 0 _).below (λj t=>by omega) Bv.size);have ZA:=World.rangeAt_setCells_same (b.alloc (.cells bo 211)) b.heap.size 0 G J0;have J1:((b.alloc (.cells bo 211)).setCells b.heap.size 0 G).rangeAt w1.heap.size 0 F:=by
   intro j v n;rw [World.cell?_of_block (w:=A) (a:=⟨w1.heap.size,0+j,none⟩)]
   .exact(d.o j v n)
   .exact((aa.setCells (F:=λj=>j=b.heap.size) rfl G 0 _).block w1.heap.size (by simp;omega) (by omega)).trans ((heap_alloc_old b _ (show w1.heap.size<b.heap.size by omega)).trans (bz.block w1.heap.size (by omega)))
  have rU:((b.alloc (.cells bo 211)).setCells b.heap.size 0 G).heap[w.heap.size]? =some (.cells cW 213 (0,0)):=
     ((aa.setCells (F:=λj=>j=b.heap.size) rfl G 0 _).block w.heap.size (by simp;omega) (by omega)).trans ((heap_alloc_old b _ (show w.heap.size<b.heap.size by omega)).trans wJ)
  obtain⟨p,pA⟩:=bP ((b.alloc (.cells bo 211)).setCells b.heap.size 0 G);rw [<-pA] at BU ZA J1 rU;have J2:p.there w.heap.size 0 (F.toArray ++ G.toArray).toList.length:=cH rU (by rw [dh];simp;omega);have f:=yh (World.rangeAt_setCells_same p w.heap.size 0 (F.toArray ++ G.toArray).toList J2);obtain⟨NC,Ji⟩:=bV (BU.trans ((aa.setCells (F:=λj=>j=w.heap.size) rfl (F.toArray ++ G.toArray).toList 0 p).below (λj t=>by omega) BU.size)) pA;have tV:(prog.info? 213).map (·.size)=some (F.toArray ++ G.toArray).toList.length:=by rw [pX];simp;omega
  obtain⟨P,k⟩:=bP (F.toArray ++ G.toArray);rw [<-k] at zk Gk J2 f NC tV;have s:=yh k;clear z bz JU wJ pY Bv BU rU pA k jZ d Gn ff;go_wp2_with (first|refine mD rfl _ _ rfl F.toArray G.toArray P rfl rfl l m s.o ?_|refine wpList_store_mid rfl 211 _ _ rfl b.heap.size 0 G.toArray rfl rfl ?h1 ?h2 Q9 ?_|(rw [<-Ji.o];first|refine wpList_load_mid rfl 211 _ rfl w1.heap.size 0 rfl F _ J1 underlying211 rfl sD ?_|refine wpList_load_mid rfl 211 _ rfl b.heap.size 0 rfl G _ ZA underlying211 rfl sE ?_)|refine wpList_load_mid rfl 211 _ rfl w1.heap.size 0 rfl F _ J1 underlying211 rfl sD ?_|refine wpList_load_mid rfl 211 _ rfl b.heap.size 0 rfl G _ ZA underlying211 rfl sE ?_|refine wpList_store_mid rfl 213 _ _ rfl w.heap.size 0 P rfl rfl ?h3 ?h4 Gk ?_);case h1=>simpa using J0
  case h2=>simpa using sE
  case h3=>simpa using J2
  case h4=>simpa using zk
  have D:P.toList.toArray=(F ++ G).toArray:=by rw [s.o];simp
  exact bodyPost_ret (results_cell_tmp (P:=prog) rfl _ _ w.heap.size P.toList _ _ rfl rfl f.out underlying213 rfl tV) rfl ⟨by rw [D];rfl,NC.out⟩
def jt (a:Option Addr) (n c:Nat) (l:List Int) (b:Option Addr) (m d:Nat) (r:List Int) (w:World) (g:Src w a n l) (br:Src w b m r):
  Calls prog 180 #[.slice a n c, .slice b m d] w λe w'=>e= .returned (.tuple #[.agg (bs (bQ l ++ bQ r)).toArray, .bool (decide (n=512) && decide (m=512))])/\bW w w':=by
 have h:=JZ (decide (n=512)) (decide (m=512)) (bs (bQ l)) (bs (bQ r)) (by rw [bs,jF,aT]) (by rw [bs,jF,aT]) (cF _) (cF _) (.slice a n c) (.slice b m d) w
    (λw' f=>tU a n c l w' (g.later f)) (λw' f=>tU b m d r w' (br.later f))
 rw [List.append_toArray,<-iS] at h;exact h
def iC (w:World) (g:Nat) (v:Value) (l:List Int):Prop:=∃a c,v= .slice a l.length c/\Src w a l.length l/\l.length<=c/\∀x,a=some x->x.block=g
def iC.nil (w:World) (g:Nat):iC w g (.slice none 0 0) []:=⟨none,0,rfl,⟨rfl,λ_=>rfl,λx a=>by cases a⟩,bR _,λx a=>by cases a⟩
def iC.later (h:iC w g v l) (b:bW w w'):iC w' g v l:=by
 obtain⟨a,c,rfl,e,d,f⟩:=h;exact⟨a,c,rfl,e.later b,d,f⟩
def iC.lst {B:Nat} (h:iC w g v l) (d:B<=g):yo w B v l:=by
 obtain⟨a,c,rfl,f,b,i⟩:=h;exact⟨a,c,rfl,f,b,λx e=>by rw [i x e];exact d⟩
def fq {s:List Int} (h:fC s=none\/∃b,fC s=some b/\(b.length<8\/9223372036854775808<=le (b.take 8))):az s=(0, []):=by
 rcases h with h|⟨b,h,a⟩
 .simp [az,h]
 .simp only [az,h];rw [aB (by omega)]
def tW {s b:List Int} (h:fC s=some b) (a:8<=b.length) (c:le (b.take 8)<9223372036854775808):az s=(le (b.take 8),b.drop 8):=by
 simp only [az,h];rw [aG ⟨a,c⟩]
def zm (g o:Nat) (s:List Int) (w:World) (c:Src w (some (aD g o)) 512 s) (p:Bytes s):
  Calls prog 219 #[.pointer (some (aD g o))] w λe w'=>∃v,e= .returned (.tuple #[iV (((az s).1:Nat):Int),v])/\iC w' g v (az s).2/\bW w w':=by
 have mX:=c.1;go_in;go_wp2_with fail;by_cases D7:504<dP s\/2<s.getD 0 0
 .have jd:az s=(0, []):=fq (.inl (by unfold fC;rw [aB (λh=>by omega)]));have om:=yh jd;have b:=yr g o s w c p D7;clear jd c;refine bJ b λw' d=>?_;have eR:=d.symm;subst eR;clear d b;go_wp2;go_ret2;exact⟨_,by rw [om.o];rfl,by rw [om.o];exact iC.nil _ _,bi _ _⟩
 .have b:=Gi g o s w c p (by omega) (by omega);have lF:=lV (s:=s) (by omega) mX;have gN:Bytes (dJ s):=(p.drop _).take _;by_cases a:bh (s.getD 0 0) (dJ s)=s
  .have mn:fC s=some (dJ s):=(by unfold fC;rw [aG ⟨by omega,by omega,a⟩]);rw [decide_eq_true a] at b;refine b.mono ?_;by_cases A:dP s<8
   .have jd:=fq (.inr ⟨_,mn, .inl (by omega)⟩);have om:=yh jd;have l:(dP s:Int)<8:=(by omega);clear jd c mn a gN;generalize dP s=N at*;rintro e w1 ⟨k,rfl,_,ar⟩;have cQ:=yh ar;clear ar b;go_wp2;go_ret2;exact⟨_,by rw [om.o];rfl,by rw [om.o];exact iC.nil _ _,cQ.o⟩
   .have l:¬(dP s:Int)<8:=(by omega);have sB:∀w1:World,bW w w1->Src w1 (some ⟨g,o+7,none⟩) (dP s) (dJ s):=λw1 h=>kM (c.later h) (i:=7) (m:=dP s) (by omega);have ND:((dJ s).take 8).length=8:=(by rw [oj];omega);have ZB:=Gf (gN.take 8) (by omega);have pO:=λw1 h=>by
     have r:=kM (sB w1 h) (i:=0) (m:=8) (by omega);rw [List.drop_zero] at r;exact vq g (o+7) 8 8 ((dJ s).take 8) w1 (gN.take 8) ND (by omega) (λi q=>by have:=r.2.2 _ rfl i q;rwa [aN,Nat.add_zero] at this)
    have VE:=yh pO;clear pO;obtain⟨M,f⟩:=bP (le ((dJ s).take 8));rw [<-f] at ZB VE;rintro e w1 ⟨k,rfl,j,ar⟩;have BJ:=j (by omega);subst BJ;have cQ:=yh ar;have t:=VE.o w1 ar;clear ar b VE j;go_wp2_with fail;refine bJ t λw' d=>?_;have eR:=d.symm;subst eR;clear d t;by_cases aU:9223372036854775807<M
    .have jd:=fq (.inr ⟨_,mn, .inr (by omega)⟩);have om:=yh jd;have ac4:9223372036854775807<(M:Int):=(by omega);clear jd c mn a gN f;generalize dP s=N at*;have y:(8:Int)<=(N:Int):=(by omega);go_wp2;go_ret2;exact⟨_,by rw [om.o];rfl,by rw [om.o];exact iC.nil _ _,cQ.o⟩
    .have kP:az s=(M,(dJ s).drop 8):=(by rw [f];exact tW mn (by omega) (by omega));have J3:=yh kP;have ac4:¬9223372036854775807<(M:Int):=(by omega);have qV:((dJ s).drop 8).length=dP s-8:=(by simp;omega);have jK:∀(w1:World) (k:Nat),bW w w1->(8<dP s->k=o+7+8)->iC w1 g (.slice (some (aD g k)) (dP s-8) (dP s-8)) ((dJ s).drop 8):=by
      intro w1 k h j;refine⟨some (aD g k),dP s-8,by rw [qV],?_,by omega,λx u=>by cases u;rfl⟩;rw [qV];by_cases n:8<dP s
      .rw [j n];have:=kM (sB w1 h) (i:=8) (m:=dP s-8) (by omega);rwa [nC (by omega)] at this
      .exact⟨by omega,(λe=>by cases e),λx u i q=>by omega⟩
     have lj:=yh jK;clear kP c mn a gN f jK sB qV ND lF;generalize dP s=N at*;have y:(8:Int)<=(N:Int):=(by omega);go_wp2;go_quiet (fail);by_cases n:N=8
     .subst n;go_wp2;go_ret2;exact⟨_,by rw [J3.o];rfl,by rw [J3.o];exact lj.o _ _ (below_drewN cQ.o _) (λh=>by omega),below_drewN cQ.o _⟩
     .have z:¬(N:Int)=8:=(by omega);go_wp2;go_ret2;exact⟨_,by rw [J3.o];rfl,by rw [J3.o];exact lj.o _ _ (below_drewN cQ.o _) (λh=>by omega),below_drewN cQ.o _⟩
  .have jd:=fq (.inl (by unfold fC;rw [aB (λh=>a h.2.2)]));have om:=yh jd;rw [decide_eq_false a] at b;clear jd c a gN;generalize dP s=N at*;refine b.mono ?_;rintro e w1 ⟨k,rfl,_,ar⟩;have cQ:=yh ar;clear ar b;go_wp2;go_ret2;exact⟨_,by rw [om.o];rfl,by rw [om.o];exact iC.nil _ _,cQ.o⟩
def l7 {r:List Int} (a:l.length=512) (b:r.length=512):am l r=if (az l).1=0/\(az r).1=0 then (0,0, [],30) else if (az l).1<(az r).1 then (1,(az r).1,(az r).2,0) else (0,(az l).1,(az l).2,0):=by
 unfold am;rw [aB (by omega)]
def kC (s:List Int):(az s).1<=9223372036854775807:=by
 unfold az;split
 .simp
 .split
  .next h=>simp only;omega
  .simp
def J4 (l r:List Int):Nat->Nat×Nat×List Int
 |0=>(0,0, [])
 |1=>if 0<(az l).1 then (0,(az l).1,(az l).2) else (0,0, [])
 |_+2=>if (if 0<(az l).1 then (0,(az l).1,(az l).2) else (0,0,([]:List Int))).2.1<(az r).1 then (1,(az r).1,(az r).2) else if 0<(az l).1 then (0,(az l).1,(az l).2) else (0,0, [])
def VF {r:List Int} (c:l.length=512) (d:r.length=512):J4 l r 2=((am l r).1,(am l r).2.1,(am l r).2.2.1):=by
 rw [l7 c d];unfold J4;by_cases b:0<(az l).1
 .simp only [aG b];rw [aB (show¬((az l).1=0/\(az r).1=0) by omega)];by_cases a:(az l).1<(az r).1
  .simp only [aG a]
  .simp only [aB a]
 .simp only [aB b];by_cases a:0<(az r).1
  .simp only [aG a];rw [aB (show¬((az l).1=0/\(az r).1=0) by omega),aG (show (az l).1<(az r).1 by omega)]
  .simp only [aB a];rw [aG (show (az l).1=0/\(az r).1=0 by omega)]
def iC.agree (h:iC w g v l) (f:w'.heap[g]? =w.heap[g]?):iC w' g v l:=by
 obtain⟨a,c,rfl,b,j,d⟩:=h;refine⟨a,c,rfl,⟨b.1,b.2.1,λx e i k=>?_⟩,j,d⟩;rw [World.cell?_of_block (w:=w) (by rw [kG,(d x e)];exact f)];exact b.2.2 x e i k
def ZC {a b c:Value} (h:w.heap[g]? =some (.cells #[a,b,c] T (0,0))):
    (((w.setCell ⟨g,0,none⟩ x).setCell ⟨g,1,none⟩ y).setCell ⟨g,2,none⟩ z).heap[g]? =some (.cells #[x,y,z] T (0,0)):=by
 rw [heap_setCell_same _ _ _ _ _ _ (heap_setCell_same _ _ _ _ _ _ (heap_setCell_same _ _ _ _ _ _ h))];rfl
def ZD (h:w.heap[g]? =some (.cells #[x,y,z] T (0,0))):w.rangeAt g 0 [x,y,z]:=by
 intro j v a;rw [Nat.zero_add];exact aj h (by simpa using a)
def J5:(prog.info? 217).map (·.size)=some 3:=by kernel_rfl
def J6 (w:World) (g:Nat) (x y z:Value):aa (λj=>j=g) w (((w.setCell ⟨g,0,none⟩ x).setCell ⟨g,1,none⟩ y).setCell ⟨g,2,none⟩ z):=
   ((aa.setCell (F:=λj=>j=g) (p:=⟨g,0,none⟩) w rfl x).trans (aa.setCell (F:=λj=>j=g) (p:=⟨g,1,none⟩) _ rfl y) (λ_ h=> .inl h)).trans (aa.setCell (F:=λj=>j=g) (p:=⟨g,2,none⟩) _ rfl z) (λ_ h=> .inl h)
def Nw (w:World) (g:Nat) (l r:List Int) (k:Nat) (wr:World):Prop:=
 ∃v,wr.heap[w.heap.size+1]? =some (.cells #[.int .i64 (((J4 l r k).1:Nat):Int), .int .i64 (((J4 l r k).2.1:Nat):Int),v] 217 (0,0))/\iC wr g v (J4 l r k).2.2/\
    (∃x y z,wr.heap[w.heap.size]? =some (.cells #[x,y,z] 217 (0,0)))/\bW w wr
def oF (g:Nat) (l r:List Int) (w:World) (s:Src w (some (aD g 0)) 512 l) (br:Src w (some (aD g 512)) 512 r) (R:Bytes l) (T:Bytes r):
  Calls prog 181 #[pQ g] w λe w'=>∃v,e= .returned (.agg #[iV (((am l r).1:Nat):Int),iV (((am l r).2.1:Nat):Int),v])/\iC w' g v (am l r).2.2.1/\bW w w':=by
 obtain⟨J,K⟩:=bV (λw' (F:bW w w')=>zm g 0 l w' (s.later F) R) (λw' (F:bW w w')=>zm g 512 r w' (br.later F) T);have W:g<w.heap.size:=s.old _ rfl (by omega);have lj:=yh (VF s.1 br.1);clear s br;go_in;go_wp2;go_loopw [8] (λi wr=>∃k:Nat,k<=2/\i=iV k/\Nw w g l r k wr) (λi _=>2-(intOf i).toNat);case atStart=>exact⟨0,dL _,rfl, .slice none 0 0,heap_alloc2_new _ _ _,iC.nil _ _,⟨_,_,_,heap_alloc2_old _ _ _⟩,((bi _ w).alloc (bR _) _).alloc (by simp) _⟩
 case round=>
  obtain⟨k,X,rfl,E⟩:=hrel;obtain rfl|rfl|rfl:k=0\/k=1\/k=2:=by omega
  .obtain⟨v,aV,iU,jq,ey⟩:=E;have m:=J.out wr ey;have f:=yh (aH aV (aH iU (aH jq ey)));clear aV iU jq ey;generalize Ms:J4 l r 0=S at*;go_wp2_with fail;refine m.mono ?_;rintro e w1 ⟨U,rfl,cu,ar⟩;obtain⟨b,c,d,iO⟩:=cu;subst d;have cu:iC w1 g _ _:=⟨b,c,rfl,iO⟩;clear iO;obtain⟨aV,iU,⟨n,p,q,jq⟩,ey⟩:=f.o;have je:=(ar.block _ (lY.1 aV).1).trans aV;have kO:=(ar.block _ (lY.1 jq).1).trans jq;have bN:=ey.trans (ar.mono ey.size);have zn:=iU.later ar;obtain⟨JK,Bo,BP,ZE,Rc,wI,M⟩:=nD (aM je) (bG je) (bM je) (ae je 0) (ae je 1) (ae je 2) bN.size;by_cases h0:S.2.1<(az l).1
   .have PG:((S.2.1:Nat):Int)<(((az l).1:Nat):Int):=(by omega);have a:J4 l r 1=(0,(az l).1,(az l).2):=by
     rw [<-Ms] at h0;have h0:0<(az l).1:=h0;unfold J4;rw [aG h0]
    have fb:=J6 w1 (w.heap.size+1) (iV 0) (iV (((az l).1:Nat):Int)) (.slice b (az l).2.length c);have Re:Nw w g l r 1 (((w1.setCell ⟨w.heap.size+1,0,none⟩ (.int .i64 0)).setCell ⟨w.heap.size+1,1,none⟩ (.int .i64 (((az l).1:Nat):Int))).setCell ⟨w.heap.size+1,2,none⟩ (.slice b (az l).2.length c)):=by
     refine⟨_,by rw [a];exact(ZC (x:=iV 0) (y:=iV (((az l).1:Nat):Int)) (z:= .slice b (az l).2.length c) je),by rw [a];exact cu.agree (fb.block g (by omega) (by omega)),⟨n,p,q,(fb.block _ (lY.1 kO).1 (by omega)).trans kO⟩,bN.trans (fb.below (λj L=>by omega) bN.size)⟩
    have ZF:=yh Re;generalize (az l).1=A at*;generalize (az l).2.length=D at*;clear m f aV iU jq ey je kO bN zn fb Re cu ar a;go_wp2;go_roundw;case rel=>exact⟨1,by omega,by go_num,ZF.o⟩
    case measure=>simp [intOf]
   .have PG:¬((S.2.1:Nat):Int)<(((az l).1:Nat):Int):=(by omega);have a:J4 l r 1=S:=by
     rw [<-Ms] at h0⊢;have h0:¬0<(az l).1:=h0;unfold J4;rw [aB h0]
    have Re:Nw w g l r 1 w1:=⟨v,by rw [a];exact je,by rw [a];exact zn,⟨n,p,q,kO⟩,bN⟩;have ZF:=yh Re;generalize (az l).1=A at*;generalize (az l).2.length=D at*;clear m f aV iU jq ey je kO bN zn Re cu ar a;go_wp2;go_roundw;case rel=>exact⟨1,by omega,by go_num,ZF.o⟩
    case measure=>simp [intOf]
  .obtain⟨v,aV,iU,jq,ey⟩:=E;have m:=K.out wr ey;have f:=yh (aH aV (aH iU (aH jq ey)));clear aV iU jq ey;generalize Ms:J4 l r 1=S at*;go_wp2_with fail;refine m.mono ?_;rintro e w1 ⟨U,rfl,cu,ar⟩;obtain⟨b,c,d,iO⟩:=cu;subst d;have cu:iC w1 g _ _:=⟨b,c,rfl,iO⟩;clear iO;obtain⟨aV,iU,⟨n,p,q,jq⟩,ey⟩:=f.o;have je:=(ar.block _ (lY.1 aV).1).trans aV;have kO:=(ar.block _ (lY.1 jq).1).trans jq;have bN:=ey.trans (ar.mono ey.size);have zn:=iU.later ar;obtain⟨JK,Bo,BP,ZE,Rc,wI,M⟩:=nD (aM je) (bG je) (bM je) (ae je 0) (ae je 1) (ae je 2) bN.size;by_cases h0:S.2.1<(az r).1
   .have PG:((S.2.1:Nat):Int)<(((az r).1:Nat):Int):=(by omega);have a:J4 l r 2=(1,(az r).1,(az r).2):=by
     rw [<-Ms] at h0;unfold J4 at h0⊢;rw [aG h0]
    have fb:=J6 w1 (w.heap.size+1) (iV 1) (iV (((az r).1:Nat):Int)) (.slice b (az r).2.length c);have Re:Nw w g l r 2 (((w1.setCell ⟨w.heap.size+1,0,none⟩ (.int .i64 1)).setCell ⟨w.heap.size+1,1,none⟩ (.int .i64 (((az r).1:Nat):Int))).setCell ⟨w.heap.size+1,2,none⟩ (.slice b (az r).2.length c)):=by
     refine⟨_,by rw [a];exact(ZC (x:=iV 1) (y:=iV (((az r).1:Nat):Int)) (z:= .slice b (az r).2.length c) je),by rw [a];exact cu.agree (fb.block g (by omega) (by omega)),⟨n,p,q,(fb.block _ (lY.1 kO).1 (by omega)).trans kO⟩,bN.trans (fb.below (λj L=>by omega) bN.size)⟩
    have ZF:=yh Re;generalize (az r).1=A at*;generalize (az r).2.length=D at*;clear m f aV iU jq ey je kO bN zn fb Re cu ar a;go_wp2;go_roundw;case rel=>exact⟨2,by omega,by go_num,ZF.o⟩
    case measure=>simp [intOf]
   .have PG:¬((S.2.1:Nat):Int)<(((az r).1:Nat):Int):=(by omega);have a:J4 l r 2=S:=by
     rw [<-Ms] at h0⊢;unfold J4 at h0⊢;rw [aB h0]
    have Re:Nw w g l r 2 w1:=⟨v,by rw [a];exact je,by rw [a];exact zn,⟨n,p,q,kO⟩,bN⟩;have ZF:=yh Re;generalize (az r).1=A at*;generalize (az r).2.length=D at*;clear m f aV iU jq ey je kO bN zn Re cu ar a;go_wp2;go_roundw;case rel=>exact⟨2,by omega,by go_num,ZF.o⟩
    case measure=>simp [intOf]
  .obtain⟨v,aV,iU,⟨n,p,q,jq⟩,ey⟩:=E;rw [lj.o] at aV iU;obtain⟨b,c,d,iO⟩:=iU;subst d;have iU:iC wr g _ _:=⟨b,c,rfl,iO⟩;clear iO
   dsimp only at aV iU
   generalize Q:(am l r).2.2.1.length=D at*;obtain⟨JK,Bo,BP,xC,iP,cI,ZE,Rc,wI,pp,fb,M⟩:=FK (aM aV) (bG aV) (bM aV) (aM jq) (bG jq) (bM jq) (ae jq 0) (ae jq 1) (ae jq 2) (ZC (x:=iV (((am l r).1:Nat):Int)) (y:=iV (((am l r).2.1:Nat):Int)) (z:= .slice b D c) jq) (J6 wr w.heap.size (iV (((am l r).1:Nat):Int)) (iV (((am l r).2.1:Nat):Int)) (.slice b D c)) ey.size;have fK:=iU.agree (fb.block g (by omega) (by omega));have eV:=ey.trans (fb.below (λj L=>by omega) ey.size);have t:=yh (aH fK eV);have G:=aM pp;have H:=bG pp;have I:=bM pp;clear aV iU jq ey fb fK eV lj J K;have Bm:=yh (ZD pp);obtain⟨A,u⟩:=bP ((am l r).1);obtain⟨B,C⟩:=bP ((am l r).2.1);rw [<-u] at JK pp t G H I Bm;rw [<-C] at Bo pp t G H I Bm;obtain⟨N,O⟩:=bV u C;clear u C Q pp;go_wp2;exact bodyPost_ret (gz (P:=prog) rfl _ _ w.heap.size _ _ rfl Bm.out underlying217 rfl J5) rfl ⟨.slice b D c,by rw [<-N.o,<-O.o],t.o⟩
def fi {P:Program} {b:Func} {p q r s:Tmp} (h:b.results= #[.tmp p, .tmp q, .tmp r, .tmp s]) (a:Array Value) (w:World):
    (results b a).run P w= .ok (.tuple #[a.getD p undef,a.getD q undef,a.getD r undef,a.getD s undef]) w:=by
 simp [results,h]
def ki {r:List Int} (h:l.length=512) (a:r.length=512):(prog.info? 213).map (·.size)=some (bs (l ++ r)).length:=by
 rw [pX,bs,jF,ee,h,a]
def qY {r:List Int} (h:kh w T g (l ++ r)) (c:l.length=512) (d:r.length=512):Src w (some (aD g 0)) 512 l/\Src w (some (aD g 512)) 512 r:=by
 have j8:(l ++ r).length=1024:=by simp;omega
 have a:=h.src (o:=0) (n:=512) (by omega);have b:=h.src (o:=512) (n:=512) (by omega);rw [List.drop_zero,List.take_left' c] at a;rw [List.drop_left' c,nC (by omega)] at b;exact⟨a,b⟩
def Gp (a:Option Addr) (n c:Nat) (l:List Int) (s:Option Addr) (m d:Nat) (r:List Int) (w:World) (y:Src w a n l) (br:Src w s m r) (M:Bytes l) (N:Bytes r):
  Calls prog 190 #[.slice a n c, .slice s m d] w λe w'=>∃v,e= .returned (.tuple #[iV (((am l r).1:Nat):Int),iV (((am l r).2.1:Nat):Int),v,iV (((am l r).2.2.2:Nat):Int)])/\yo w' w.heap.size v (am l r).2.2.1/\bW w w':=by
 obtain⟨S,h1,CQ,vv,aW,bX⟩:=jH kN (jt a n c l s m d r w y br) y.1 br.1 (ki (aT l) (aT r)) (all_oneCell_toArray (cF (bQ l ++ bQ r)));have rW:(bs (bQ l ++ bQ r)).length=1024:=by rw [bs,jF,ee,aT,aT]
 obtain⟨F,x⟩:=bP (bs (bQ l ++ bQ r));rw [<-x] at h1 aW bX rW;have L:=yh x;clear x y br;go_in;go_wp2_with fail;refine bJ h1 λw1 ar=>?_;have bT:(w1.alloc (.cells cW 213)).heap[w1.heap.size]? =some (.cells cW 213 (0,0)):=heap_alloc_new _ _;have eh:=cH bT dh;rw [<-rW] at eh;have bN:bW w (w1.alloc (.cells cW 213)):=ar.alloc ar.size _;have eM:=ar.size;have eV:=bN.trans ((aa.setCells (F:=λj=>j=w1.heap.size) rfl F 0 _).below (λj R=>by omega) bN.size);have aV:=eO (l:=bQ l ++ bQ r) bT (by rw [dh,ee,aT,aT]);rw [<-L.o] at aV;obtain⟨Q,dN⟩:=bP ((w1.alloc (.cells cW 213)).setCells w1.heap.size 0 F);rw [<-dN] at eV aV;obtain⟨dZ,sF,ff⟩:=kI eV aV dN;clear h1 bT bN ar eV aV dN;by_cases Fz:n=512/\m=512
 .obtain⟨rfl,rfl⟩:=Fz;rw [(gO CQ),(gO vv)] at sF;obtain⟨s1,s2⟩:=qY sF.o CQ vv;have G:=oF w1.heap.size l r Q s1 s2 M N;have DU:=l7 CQ vv;have lG:(am l r).2.1<=9223372036854775807:=by
   have T:=kC l;have U:=kC r;rw [DU];split
   .simp
   .split <;> simp only <;> omega
  have ac6:((am l r).2.1=0/\(am l r).1=0/\(am l r).2.2.1= []/\(am l r).2.2.2=30)\/(0<(am l r).2.1/\(am l r).2.2.2=0):=by
   rw [DU];by_cases q:(az l).1=0/\(az r).1=0
   .rw [aG q];exact .inl ⟨rfl,rfl,rfl,rfl⟩
   .rw [aB q];by_cases H:(az l).1<(az r).1
    .rw [aG H];exact .inr ⟨by simp only;omega,rfl⟩
    .rw [aB H];exact .inr ⟨by simp only;omega,rfl⟩
  clear DU sF s1 s2;go_wp2_with (refine wpList_store_mid rfl 213 _ _ rfl w1.heap.size 0 F.toArray rfl rfl ?h1 ?h2 bX ?_);case h1=>simpa using eh
  case h2=>simpa using aW
  rw [<-ff.o];refine G.mono ?_;rintro e i ⟨v,rfl,iU,bz⟩;obtain⟨I,J,O,C⟩:=iU;subst O;have iU:iC i w1.heap.size _ _:=⟨I,J,rfl,C⟩;have jY:=dZ.o.trans (bz.mono dZ.o.size);have k:=yh (λw' (h:bW i w')=>aH ((iU.lst eM).later h) (jY.trans (h.mono jY.size)));obtain⟨A,p⟩:=bP ((am l r).1);obtain⟨B,f⟩:=bP ((am l r).2.1);obtain⟨D,g⟩:=bP ((am l r).2.2.1);obtain⟨E,u⟩:=bP ((am l r).2.2.2);rw [<-p,<-f,<-g,<-u] at ac6;rw [<-f] at lG;rw [<-g] at k;rw [<-p,<-f,<-g];have b:=yh (aH p (aH f (aH g u)));clear G C iU bz ff eh aW bX jY dZ p f g u;rcases ac6 with ⟨rfl,rfl,rfl,rfl⟩|⟨DI,rfl⟩
  .go_wp2;exact bodyPost_ret (fi (P:=prog) rfl _ _) rfl ⟨.slice none 0 0,by rw [<-b.o.1,<-b.o.2.1,<-b.o.2.2.2];rfl,by rw [<-b.o.2.2.1];exact yo.nil _ _,(k.o _ ((bi _ i).alloc (bR _) _)).2⟩
  .have acy:((B:Int) == 0)=false:=(by rw [fy];omega);generalize t:D.length=K at*;clear t;go_wp2;go_quiet (fail);go_wp2;exact bodyPost_ret (fi (P:=prog) rfl _ _) rfl ⟨.slice I K J,by rw [<-b.o.1,<-b.o.2.1,<-b.o.2.2.2];rfl,by rw [<-b.o.2.2.1];exact(k.o _ (below_drewN ((bi _ i).alloc (bR _) _) _)).1,(k.o _ (below_drewN ((bi _ i).alloc (bR _) _) _)).2⟩
 .have z:am l r=(0,0, [],2):=by unfold am;rw [aG (by omega)]
  have gN:(decide (n=512) && decide (m=512))=false:=by
   rw [<-Bool.decide_and,decide_eq_false Fz]
  have PM:=yh z;rw [gN];clear z gN Fz;go_wp2_with (refine wpList_store_mid rfl 213 _ _ rfl w1.heap.size 0 F.toArray rfl rfl ?h1 ?h2 bX ?_);case h1=>simpa using eh
  case h2=>simpa using aW
  rw [<-ff.o];exact bodyPost_ret (fi (P:=prog) rfl _ _) rfl ⟨.slice none 0 0,by rw [PM.o];rfl,by rw [PM.o];exact yo.nil _ _,dZ.o⟩
def le_top {b:List Int} (a:Bytes b) (h:8<=b.length):le (b.take 8)<9223372036854775808↔b.getD 7 0<=127:=by
 have bq:le (b.take 7)<2 ^ 56:=by
  have:=lE (a.take 7);have c:(b.take 7).length=7:=by rw [oj];omega
  rwa [c] at this
 have d:=a.getD 7;rw [(lK (l:=b) (k:=7) (by omega))];constructor <;> intro h <;> omega
def tX {B:List Int} (b:Bytes B) (a:j<B.length):le (B.drop j)=(B.getD j 0).toNat+256*le (B.drop (j+1)):=by
 rw [List.drop_eq_getElem_cons a];simp [le,List.getD,a]
def zq {B:List Int} (a:Bytes B):∀j,le (B.drop j)<=le B
 |0=>bR _
 |j+1=>by
  refine k9 ?_ (zq a j);by_cases b:j<B.length
  .rw [tX a b];omega
  .rw [List.drop_eq_nil_of_le (by omega),List.drop_eq_nil_of_le (by omega)];exact bR _
def wL (b o c:Nat) (s:List Int) (w:World) (A:Src w (some (aD b o)) 512 s) (UD:Bytes s):
  Calls prog 198 #[.slice (some (aD b o)) 512 c] w λe w'=>∃v,e= .returned (.tuple #[iV (((az s).1:Nat):Int),v])/\Own w' w.heap.size v (az s).2/\bW w w':=by
 have a:=CO b o c s w A UD;have mX:=A.1;clear A;cases mn:fC s with
 |none=>
  rw [kL mX mn] at a
  dsimp only at a
  have om:=yh (fq (.inl mn));clear mn;go_in;go_wp2_with fail;refine a.mono ?_;rintro e w1 ⟨v,rfl,_,ar⟩;have cQ:=yh ar;clear a ar;go_wp2;go_ret2;exact⟨_,by rw [om.o];rfl,by rw [om.o];exact Own.nil _ _,cQ.o⟩
 |some body=>
  have lF:=qU mn mX;have gN:Bytes body:=by obtain⟨_,_,_,rfl⟩:=oA mn;exact(UD.drop _).take _
  rw [pW mX mn] at a
  dsimp only at a
  by_cases K:body.length<8
  .have jd:=fq (.inr ⟨_,mn, .inl K⟩);have om:=yh jd;have n:(body.length:Int)<8:=(by omega);clear jd mn;go_in;go_wp2_with fail;refine a.mono ?_;rintro e w1 ⟨v,rfl,d,ar⟩;obtain⟨va,U,rfl,_,_,_⟩:=d.src;have cQ:=yh ar;clear a ar d;go_wp2;go_ret2;exact⟨_,by rw [om.o];rfl,by rw [om.o];exact Own.nil _ _,cQ.o⟩
  .have n:¬(body.length:Int)<8:=(by omega);have D9:=le_top gN (by omega);by_cases Y:127<body.getD 7 0
   .have jd:=fq (.inr ⟨_,mn, .inr (by omega)⟩);have om:=yh jd;clear jd mn D9;go_in;go_wp2_with fail;refine a.mono ?_;rintro e w1 ⟨v,rfl,d,ar⟩;obtain⟨g,U,rfl,_,k⟩:=d.full (by omega);have f:=k.get (i:=7) (by omega);have cQ:=yh ar;have F:(7:Int)<(body.length:Int):=(by omega);clear a ar d k;generalize body.getD 7 0=x at*;generalize body.length=N at*;go_wp2;go_ret2;exact⟨_,by rw [om.o];rfl,by rw [om.o];exact Own.nil _ _,cQ.o⟩
   .have kP:=tW mn (by omega) (D9.2 (by omega));have lG:=D9.2 (by omega);have J3:=yh kP;have ND:(body.take 8).length=8:=(by rw [oj];omega);have QZ:=gN.take 8;clear kP mn D9;go_in;go_wp2_with fail;refine a.mono ?_;rintro e w1 ⟨v,rfl,d,ar⟩;obtain⟨g,U,rfl,hg,k⟩:=d.full (by omega);have f:=k.get (i:=7) (by omega);have cQ:=yh ar;have E:=yh k;have F:(7:Int)<(body.length:Int):=(by omega);have dE:=ar.size;clear a ar d k;obtain⟨x7,p⟩:=bP (body.getD 7 0);rw [<-p] at f Y;obtain⟨N,y⟩:=bP body.length;rw [<-y] at n F lF⊢;clear p;have t:=yh y;clear y K;go_wp2;go_loopw [6,7] (λr i wr=>∃j:Nat,j<=8/\i=iV ((j:Int)-1)/\wr=w1/\r=iV ((le ((body.take 8).drop j):Nat):Int)) (λ_ i _=>(intOf i+1).toNat);case atStart=>exact⟨8,bR _,rfl,rfl,by rw [List.drop_eq_nil_of_le (by omega)];rfl⟩
    case round=>
     clear f;obtain⟨j,hj,rfl,S,rfl⟩:=hrel;have eR:=S.symm;subst eR;clear S;by_cases bq:0<j
     .obtain⟨i,rfl⟩:∃i,j=i+1:=⟨j-1,by omega⟩;have O:=E.o.get (i:=i) (by have:=t.o;omega);have rX:=tX QZ (j:=i) (by omega);have z:=zq QZ i;have J:(body.take 8).getD i 0=body.getD i 0:=(by simp [List.getD,show i<8 by omega]);rw [J] at rX;obtain⟨x,T⟩:∃x:Nat,body.getD i 0=(x:Int):=⟨(body.getD i 0).toNat,by have:=gN.getD i;omega⟩;have mq:x<256:=(by have:=gN.getD i;omega);rw [T] at O rX;simp only [mx] at rX;have G:((i+1:Nat):Int)-1=(i:Int):=(by omega);have hiN:(i:Int)<(N:Int):=(by omega);rw [G];generalize L:le ((body.take 8).drop i)=P at*;generalize le ((body.take 8).drop (i+1))=R at*;have vf:((R:Int)*256+(x:Int))=((P:Nat):Int):=(by omega);have hPs:P<9223372036854775808:=(by omega);obtain⟨X,l⟩:=bV L vf;clear rX z J T L G vf;have b1:(R:Int)*256<=9223372036854775807:=(by have:=l.o;omega);go_wp2;go_roundw;case rel=>exact⟨i,by omega,by go_num,trivial,by rw [X.o];exact congrArg (Value.int .i64) (by have:=l.o;omega)⟩
      case measure=>simp [intOf]
     .obtain rfl:j=0:=(by omega);rw [List.drop_zero,show (((0:Nat):Int)-1)= -1 by rfl];generalize Z:le (body.take 8)=M at*;clear Z;go_wp2;go_loopw [8,9] (λv i wx=>∃m:Nat,m<=N-8/\i=iV ((8+m:Nat):Int)/\Own wx w1.heap.size v ((body.drop 8).take m)/\bW w1 wx) (λ_ i _=>N-(intOf i).toNat);case atStart=>exact⟨0,dL _,rfl,Own.nil _ _,bi _ _⟩
      case round=>
       obtain⟨m,hm,rfl,aA,ir⟩:=hrel;have bw:=yh aA;have UE:=yh ir;have C:=ir.size;clear aA ir;have qV:(body.drop 8).length=N-8:=(by rw [List.length_drop,t.o]);by_cases ym:m<N-8
       .have BQ:((8+m:Nat):Int)<(N:Int):=(by omega);have O:=cell_later UE.o (E.o.get (i:=8+m) (by have:=t.o;omega));have u:=kf (body.drop 8) m (by omega);have I:(body.drop 8).getD m 0=body.getD (8+m) 0:=(by simp [List.getD]);rw [I] at u;have CK:=yh u;have j8:((body.drop 8).take m).length<=504:=(by rw [oj];omega);clear u I;generalize body.getD (8+m) 0=x at*;generalize q:8+m=Q at*;have D:=yh q;clear q;go_wp2_with (at_builtin;refine cq rfl _ _ rfl w1.heap.size u8 _ x rfl rfl bw.o ?b1 ?b2 ?_);case b1=>omega
        case b2=>exact C
        intro v' w' d eI;have W:Yh (Own w' w1.heap.size v' ((body.drop 8).take (m+1))):=(by rw [<-CK.o];exact d);have xF:=yh (UE.o.trans (eI.mono (bR _)));clear d eI bw UE CK;go_wp2;go_roundw;case rel=>exact⟨m+1,by omega,by have:=D.o;subst this;go_num,W.o,xF.o⟩
        case measure=>have:=D.o;simp [intOf];omega
       .obtain rfl:m=N-8:=(by omega);have BQ:¬((8+(N-8):Nat):Int)<(N:Int):=(by omega);have H:(body.drop 8).take (N-8)=body.drop 8:=nC (by omega);rw [H] at bw;clear H;generalize q:8+(N-8)=Q at*;clear q;go_wp2;go_ret2;exact⟨_,by rw [J3.o];rfl,by rw [J3.o];exact Own.down bw.o dE,cQ.o.trans (UE.o.mono dE)⟩
def J7 (a:Option Addr) (n c:Nat) (b:Option Addr) (m d:Nat) (w:World) (h:n≠512\/m≠512):
  Calls prog 164 #[.slice a n c, .slice b m d] w λe w'=>e= .returned (.tuple #[iV 0,iV 0, .slice none 0 0,iV 2])/\w'=w:=by
 go_in;by_cases g:n=512
 .subst g;have f:(((m:Int)) != 512)=true:=by rw [gg];omega
  go_wp2;exact bodyPost_ret (fi (P:=prog) rfl _ _) rfl ⟨rfl,rfl⟩
 .have f:(((n:Int)) != 512)=true:=by rw [gg];omega
  go_wp2;exact bodyPost_ret (fi (P:=prog) rfl _ _) rfl ⟨rfl,rfl⟩
def J8 (b o c:Nat) (l:List Int) (n u d:Nat) (r:List Int) (w:World) (t:Src w (some (aD b o)) 512 l) (br:Src w (some (aD n u)) 512 r) (H:Bytes l) (I:Bytes r):
  Calls prog 164 #[.slice (some (aD b o)) 512 c, .slice (some (aD n u)) 512 d] w λe w'=>∃v,e= .returned (.tuple #[iV (((am l r).1:Nat):Int),iV (((am l r).2.1:Nat):Int),v,iV (((am l r).2.2.2:Nat):Int)])/\Own w' w.heap.size v (am l r).2.2.1/\bW w w':=by
 have y:=wL b o c l w t H;have DU:=l7 t.1 br.1;have G:=br;clear t br;go_in;go_wp2_with fail;refine y.mono ?_;rintro e w1 ⟨K,rfl,tR,ar⟩;have p:=wL n u d r w1 (G.later ar) I;have cQ:=ar;have g:=tR;clear y ar tR;obtain⟨A,z⟩:=bP (az l);obtain⟨B,C⟩:=bP (az r);rw [<-z] at DU g⊢;rw [<-C] at DU p;have Jd:=DU;clear z C DU;go_wp2_with fail;refine p.mono ?_;rintro e M ⟨E,rfl,jw,bd⟩;have dZ:=(cQ.trans (bd.mono cQ.size));have ahZ:=(Own.later g bd);have k:=(Own.down jw cQ.size);clear p bd jw cQ g;by_cases q:A.1=0/\B.1=0
 .have f:am l r=(0,0, [],30):=by rw [Jd,aG q]
  obtain⟨D,i⟩:=q;rw [D,i];have a:=f;clear Jd D i f;go_wp2;exact bodyPost_ret (fi (P:=prog) rfl _ _) rfl ⟨.slice none 0 0,by rw [a];rfl,by rw [a];exact Own.nil _ _,dZ⟩
 .have f:=Jd;rw [aB q] at f;by_cases i:A.1<B.1
  .rw [aG i] at f;have a:=f;have m:((A.1:Nat):Int)<((B.1:Nat):Int):=(by omega);have L:((((B.1:Nat):Int)) == 0)=false:=(by rw [fy];omega);clear Jd f q i;by_cases j:A.1=0
   .rw [j] at m⊢;generalize bN:B.1=x at*;have cQ:=bN;clear bN j;go_wp2;exact bodyPost_ret (fi (P:=prog) rfl _ _) rfl ⟨E,by rw [a];rfl,by rw [a];exact k,dZ⟩
   .have J:((((A.1:Nat):Int)) == 0)=false:=(by rw [fy];omega);generalize bN:B.1=x at*;generalize A.1=F at*;clear bN j;go_wp2;exact bodyPost_ret (fi (P:=prog) rfl _ _) rfl ⟨E,by rw [a];rfl,by rw [a];exact k,dZ⟩
  .rw [aB i] at f;have a:=f;have m:¬((A.1:Nat):Int)<((B.1:Nat):Int):=(by omega);have J:((((A.1:Nat):Int)) == 0)=false:=(by rw [fy];omega);clear Jd f q i;generalize s:A.1=F at*;generalize B.1=x at*;clear s;go_wp2;exact bodyPost_ret (fi (P:=prog) rfl _ _) rfl ⟨K,by rw [a];rfl,by rw [a];exact ahZ,dZ⟩
def mE (a:Option Addr) (n c:Nat) (l:List Int) (f:Option Addr) (m d:Nat) (r:List Int) (w:World) (g:Src w a n l) (br:Src w f m r) (k:Bytes l) (p:Bytes r):
  Calls prog 164 #[.slice a n c, .slice f m d] w λe w'=>∃v,e= .returned (.tuple #[iV (((am l r).1:Nat):Int),iV (((am l r).2.1:Nat):Int),v,iV (((am l r).2.2.2:Nat):Int)])/\Own w' w.heap.size v (am l r).2.2.1/\bW w w':=by
 by_cases h:n=512/\m=512
 .obtain⟨rfl,rfl⟩:=h;obtain⟨b,o,rfl⟩:=cZ g (by omega);obtain⟨i,q,rfl⟩:=cZ br (by omega);exact J8 b o c l i q d r w g br k p
 .refine(J7 a n c f m d w (by omega)).mono ?_;rintro e w' ⟨rfl,rfl⟩;have j:am l r=(0,0, [],2):=by unfold am;rw [aG (by have:=g.1;have:=br.1;omega)]
  rw [j];exact⟨_,rfl,Own.nil _ _,bi _ _⟩
def Gq (l r:List Int):(am l r).2.2.1.length<=512:=by
 have h:∀s:List Int,s.length=512->(az s).2.length<=512:=by
  intro s a;unfold az;cases h:fC s with
  |none=>simp
  |some b=>
   have:=qU h a;simp only;split
   .simp only [List.length_drop];omega
   .simp
 unfold am;split
 .simp
 .next hh=>
  split
  .simp
  .split
   .exact h r (by omega)
   .exact h l (by omega)
def iW (w:World) {b:Array Oper} {rest:List Oper} {o:Oper} {a:Act} {Q:Exit->Act->World->Prop}
    (p:o.guard=none) (l c:Operand) (mn:o.op=Op.makeSlice 36 l c) (C:Int) (m n:Nat) (r:a.eval l=iV (m:Int)) (k:a.eval c=iV C) (g:C=(n:Int)) (s:m<=n) (t:n<=140737488355328)
    (j:∀w',kh w' 5 w.heap.size (zs n)->bW w w'->wpList prog b Q rest (a.put o.dst (.slice (some (aD w.heap.size 0)) m n)) w'):
  wpList prog b Q (o :: rest) a w:=by
 refine wpList_plain p λK BV=>?_;obtain⟨i,q,gC,dE,em⟩:=info_parts gq;subst g;have f:=run_make (P:=prog) w 36 5 i (.int .u8 0) underlying36 q gC .i64 .i64 (m:Int) (n:Int) (by omega) (by omega) (by rw [em];omega) (by omega);simp only [mx,dE,Nat.mul_one] at f;unfold Oper.wp;simp [execOp,mn,r,k,f,Result.andThen];refine BV _ _ (j _ ?_ ?_)
 .have d:=heap_alloc_new w (.cells (madeCells (Value.int .u8 0).cells n) 5);have e:madeCells (Value.int .u8 0).cells n=(bs (zs n)).toArray:=by
   apply Array.ext';have:(Value.int .u8 0).cells= #[Value.int .u8 0]:=rfl;rw [this,toList_madeCells_one];simp [bs,zs]
  rw [e] at d;unfold kh;rw [<-d];simp [e]
 .exact(bi _ w).alloc (bR _) _
def VG (n:Nat):bD 8 n=aS n:=by
 rw [CI];simp only [bD,Nat.div_div_eq_div_mul]
def Mt {B:Nat} {p q:List Int} (h:kh w 5 g (p ++ q)) (a:B<=g) (c:n=(p ++ q).length) (b:n<=maxLen):Own w B (.slice (some (aD g 0)) p.length n) p:=by
 subst c;refine⟨by simp [bs], .inr ⟨g,(p ++ q).length,_,rfl,a,h,by simp,b,by simp [bs],?_⟩⟩;rw [iS];simp [bs]
def pZ (N:Nat) (a:Option Addr) (n c:Nat) (l:List Int) (w:World) (s:N<9223372036854775808) (b:Src w a n l) (t:n<=496) (tM:a=none->c=0):
  Calls prog 185 #[iV (N:Int), .slice a n c] w λe w'=>∃v,e= .returned v/\Own w' w.heap.size v (aS N ++ l)/\bW w w':=by
 obtain⟨k,d,gC,dE,em⟩:=info_parts gq;have g:=b.1;go_in;go_wp2_with (at_make;refine iW _ rfl _ _ rfl _ 8 (8+n) rfl rfl ?c1 ?c2 ?c3 ?_);case c1=>omega
 case c2=>omega
 case c3=>omega
 intro w1 aV ar;have cu:=D3 w.heap.size 0 8 (8+n) N 5 (zs (8+n)) w1 aV (by omega) (by rw [bH];omega);have r:put (zs (8+n)) 0 (bD 8 N)=aS N ++ zs n:=by
  rw [VG,put,l6,dQ];simp only [List.take_zero,List.nil_append,Nat.zero_add];rw [List.drop_left' (bH 8)]
 rw [r] at cu;go_wp2_with fail;refine pz cu λo ac7 aY aow=>?_;have eV:=ar.trans (aY.below (λj f=>by omega) ar.size);have aA:=Mt ac7 (bR _) (by rw [ee,dQ,bH]) (by unfold maxLen;omega);rw [dQ] at aA;have be:o.ownsRow w.heap.size 5 1 (.slice (some (aD w.heap.size 0)) 8 (8+n)) 8 (bs (aS N)):=by
  have:=aA;unfold Own at this;rwa [dQ] at this
 have i:=eV.size;cases a with
 |none=>
  have ln:=b.2.1 rfl;subst ln;have ws:=yH g;subst ws;have JK:=tM rfl;subst JK;go_wp2_with (at_builtin;refine wpList_append_own_none rfl _ _ 36 rfl w.heap.size 5 k 1 underlying36 d _ 8 (bs (aS N)) rfl be rfl ?_);go_ret;exact⟨_,rfl,by rw [List.append_nil];exact aA,eV⟩
 |some x=>
  have vw:=(λj u (f:(bs l)[j]? =some u)=>show o.cell? (x.add j)=some u by
   obtain⟨Zt,rfl⟩:=fA f;exact cell_later eV (b.2.2 _ rfl j (by omega)))
  have j8:(bs l).length=n:=by rw [bs,jF,g]
  go_wp2_with (at_builtin;refine wpList_append_own _ rfl _ _ 36 rfl w.heap.size 5 k (.int .u8 0) 1 1 underlying36 d gC dE em rfl (by decide) _ 8 (bs (aS N)) rfl be x n c (bs l) rfl ?n0 vw ?n2 ?n3 ?n4 ?n5 ?_);case n0=>omega
  case n2=>exact cF _
  case n3=>unfold maxLen;omega
  case n4=>omega
  case n5=>exact i
  intro y z cN lr _;rw [<-iS] at cN;have p:=(D1 (m:=aS N ++ l) cN (by rw [ee,dQ];omega) rfl);go_wp2;go_ret;exact⟨_,rfl,p,eV.grown lr i (λq e=>(be.lt q e).1)⟩
def CR (s n:Nat) (v:Value) (w:World) (c:s<=1):
  Calls prog 182 #[.agg #[iV (s:Int),iV (n:Int),v]] w λe w'=>e= .returned (iV ((if n=0 then 0 else 1-s:Nat):Int))/\bW w w':=by
 have a:=((bi w.heap.size w).alloc (bR _) (.cells #[.int .i64 (s:Int), .int .i64 (n:Int),v] 217));go_in;by_cases h:n=0
 .subst h;go_wp2;go_ret;exact⟨rfl,a⟩
 .have b:((n:Int) == 0)=false:=by rw [fy];omega
  have e:((if n=0 then 0 else 1-s:Nat):Int)=1-(s:Int):=by rw [aB h];omega
  rw [e];go_wp2;go_ret;exact⟨rfl,a⟩
def NE (a:Option Addr) (n c:Nat) (l:List Int) (b:Option Addr) (m d:Nat) (r:List Int) (k:Option Addr) (q p:Nat) (num:Int) (w:World) (g:Src w a n l) (br:Src w b m r) (jd:¬(n=512/\m=512)):
  Calls prog 149 #[.slice a n c, .slice b m d,iV num, .slice k q p] w λe w'=>e= .returned (.tuple #[iV 0, .slice none 0 0,iV 2])/\bW w w':=by
 have Fz:(decide (n=512) && decide (m=512))=false:=by rw [<-Bool.decide_and,decide_eq_false jd]
 clear jd;obtain⟨t,h1,aW,bX⟩:=cP kN (jt a n c l b m d r w g br) (ki (aT l) (aT r)) (all_oneCell_toArray (cF (bQ l ++ bQ r)));have rW:(bs (bQ l ++ bQ r)).length=1024:=by rw [bs,jF,ee,aT,aT]
 obtain⟨F,f⟩:=bP (bs (bQ l ++ bQ r));rw [<-f] at h1 aW bX rW;have i:=yh f;clear f g br;go_in;go_wp2_with fail;refine bJ h1 λw1 ar=>?_;have bT:(w1.alloc (.cells cW 213)).heap[w1.heap.size]? =some (.cells cW 213 (0,0)):=heap_alloc_new _ _;have eh:=cH bT dh;rw [<-rW] at eh;have bN:bW w (w1.alloc (.cells cW 213)):=ar.alloc ar.size _;have eM:=ar.size;have eV:=bN.trans ((aa.setCells (F:=λj=>j=w1.heap.size) rfl F 0 _).below (λj s=>by omega) bN.size);have aV:=eO (l:=bQ l ++ bQ r) bT (by rw [dh,ee,aT,aT]);rw [<-i.o] at aV;obtain⟨u,dN⟩:=bP ((w1.alloc (.cells cW 213)).setCells w1.heap.size 0 F);rw [<-dN] at eV aV;obtain⟨dZ,ff⟩:=bV eV dN;clear h1 bT bN ar eV aV dN;rw [Fz];go_wp2_with (refine wpList_store_mid rfl 213 _ _ rfl w1.heap.size 0 F.toArray rfl rfl ?h1 ?h2 bX ?_);case h1=>simpa using eh
 case h2=>simpa using aW
 rw [<-ff.o];go_ret3;exact⟨rfl,dZ.o⟩
def NF (a:Option Addr) (n c:Nat) (l:List Int) (b:Option Addr) (m d:Nat) (r:List Int) (k:Option Addr) (q p:Nat) (num:Int) (w:World) (g:Src w a n l) (br:Src w b m r) (kP:n=512/\m=512) (s:num<1):
  Calls prog 149 #[.slice a n c, .slice b m d,iV num, .slice k q p] w λe w'=>e= .returned (.tuple #[iV 0, .slice none 0 0,iV 1])/\bW w w':=by
 have Fz:(decide (n=512) && decide (m=512))=true:=by rw [<-Bool.decide_and,decide_eq_true kP]
 clear kP;obtain⟨u,h1,aW,bX⟩:=cP kN (jt a n c l b m d r w g br) (ki (aT l) (aT r)) (all_oneCell_toArray (cF (bQ l ++ bQ r)));have rW:(bs (bQ l ++ bQ r)).length=1024:=by rw [bs,jF,ee,aT,aT]
 obtain⟨F,f⟩:=bP (bs (bQ l ++ bQ r));rw [<-f] at h1 aW bX rW;have i:=yh f;clear f g br;go_in;go_wp2_with fail;refine bJ h1 λw1 ar=>?_;have bT:(w1.alloc (.cells cW 213)).heap[w1.heap.size]? =some (.cells cW 213 (0,0)):=heap_alloc_new _ _;have eh:=cH bT dh;rw [<-rW] at eh;have bN:bW w (w1.alloc (.cells cW 213)):=ar.alloc ar.size _;have eM:=ar.size;have eV:=bN.trans ((aa.setCells (F:=λj=>j=w1.heap.size) rfl F 0 _).below (λj t=>by omega) bN.size);have aV:=eO (l:=bQ l ++ bQ r) bT (by rw [dh,ee,aT,aT]);rw [<-i.o] at aV;obtain⟨v,dN⟩:=bP ((w1.alloc (.cells cW 213)).setCells w1.heap.size 0 F);rw [<-dN] at eV aV;obtain⟨dZ,ff⟩:=bV eV dN;clear h1 bT bN ar eV aV dN;rw [Fz];go_wp2_with (refine wpList_store_mid rfl 213 _ _ rfl w1.heap.size 0 F.toArray rfl rfl ?h1 ?h2 bX ?_);case h1=>simpa using eh
 case h2=>simpa using aW
 rw [<-ff.o];go_ret3;exact⟨rfl,dZ.o⟩
def NG (a:Option Addr) (n c:Nat) (l:List Int) (b:Option Addr) (m d:Nat) (r:List Int) (k:Option Addr) (q p:Nat) (num:Int) (w:World) (g:Src w a n l) (br:Src w b m r) (kP:n=512/\m=512) (s:¬num<1) (t:496<q):
  Calls prog 149 #[.slice a n c, .slice b m d,iV num, .slice k q p] w λe w'=>e= .returned (.tuple #[iV 0, .slice none 0 0,iV 7])/\bW w w':=by
 have Fz:(decide (n=512) && decide (m=512))=true:=by rw [<-Bool.decide_and,decide_eq_true kP]
 have aox:496<(q:Int):=by omega
 clear kP;obtain⟨v,h1,aW,bX⟩:=cP kN (jt a n c l b m d r w g br) (ki (aT l) (aT r)) (all_oneCell_toArray (cF (bQ l ++ bQ r)));have rW:(bs (bQ l ++ bQ r)).length=1024:=by rw [bs,jF,ee,aT,aT]
 obtain⟨F,f⟩:=bP (bs (bQ l ++ bQ r));rw [<-f] at h1 aW bX rW;have i:=yh f;clear f g br;go_in;go_wp2_with fail;refine bJ h1 λw1 ar=>?_;have bT:(w1.alloc (.cells cW 213)).heap[w1.heap.size]? =some (.cells cW 213 (0,0)):=heap_alloc_new _ _;have eh:=cH bT dh;rw [<-rW] at eh;have bN:bW w (w1.alloc (.cells cW 213)):=ar.alloc ar.size _;have eM:=ar.size;have eV:=bN.trans ((aa.setCells (F:=λj=>j=w1.heap.size) rfl F 0 _).below (λj u=>by omega) bN.size);have aV:=eO (l:=bQ l ++ bQ r) bT (by rw [dh,ee,aT,aT]);rw [<-i.o] at aV;obtain⟨x,dN⟩:=bP ((w1.alloc (.cells cW 213)).setCells w1.heap.size 0 F);rw [<-dN] at eV aV;obtain⟨dZ,ff⟩:=bV eV dN;clear h1 bT bN ar eV aV dN;rw [Fz];go_wp2_with (refine wpList_store_mid rfl 213 _ _ rfl w1.heap.size 0 F.toArray rfl rfl ?h1 ?h2 bX ?_);case h1=>simpa using eh
 case h2=>simpa using aW
 rw [<-ff.o];go_ret3;exact⟨rfl,dZ.o⟩
def NH (a:Option Addr) (n c:Nat) (l:List Int) (b:Option Addr) (m d:Nat) (r:List Int) (p:Option Addr) (q s:Nat) (num:Int) (w:World) (g:Src w a n l) (br:Src w b m r) (x:Bytes l) (z:Bytes r) (kP:n=512/\m=512) (t:¬num<1) (u:q<=496) (VH:num<=(((am l r).2.1:Nat):Int)):
  Calls prog 149 #[.slice a n c, .slice b m d,iV num, .slice p q s] w λe w'=>e= .returned (.tuple #[iV 0, .slice none 0 0,iV 31])/\bW w w':=by
 obtain⟨UF,yt⟩:=kP;subst UF;subst yt;have Fz:(decide (512=512) && decide (512=512))=true:=rfl;have XY:=yh VH;clear VH;obtain⟨J,h1,CQ,vv,aW,bX⟩:=jH kN (jt a 512 c l b 512 d r w g br) g.1 br.1 (ki (aT l) (aT r)) (all_oneCell_toArray (cF (bQ l ++ bQ r)));have rW:(bs (bQ l ++ bQ r)).length=1024:=by rw [bs,jF,ee,aT,aT]
 obtain⟨F,f⟩:=bP (bs (bQ l ++ bQ r));rw [<-f] at h1 aW bX rW;have k:=yh f;clear f g br;go_in;go_wp2_with fail;refine bJ h1 λw1 ar=>?_;have bT:(w1.alloc (.cells cW 213)).heap[w1.heap.size]? =some (.cells cW 213 (0,0)):=heap_alloc_new _ _;have eh:=cH bT dh;rw [<-rW] at eh;have bN:bW w (w1.alloc (.cells cW 213)):=ar.alloc ar.size _;have eM:=ar.size;have eV:=bN.trans ((aa.setCells (F:=λj=>j=w1.heap.size) rfl F 0 _).below (λj I=>by omega) bN.size);have aV:=eO (l:=bQ l ++ bQ r) bT (by rw [dh,ee,aT,aT]);rw [<-k.o] at aV;obtain⟨H,dN⟩:=bP ((w1.alloc (.cells cW 213)).setCells w1.heap.size 0 F);rw [<-dN] at eV aV;obtain⟨dZ,sF,ff⟩:=kI eV aV dN;clear h1 bT bN ar eV aV dN;rw [Fz];rw [(gO CQ),(gO vv)] at sF;obtain⟨s1,s2⟩:=qY sF.o CQ vv;have i:=oF w1.heap.size l r H s1 s2 x z;clear s1 s2 sF;go_wp2_with (refine wpList_store_mid rfl 213 _ _ rfl w1.heap.size 0 F.toArray rfl rfl ?h1 ?h2 bX ?_);case h1=>simpa using eh
 case h2=>simpa using aW
 rw [<-ff.o];refine i.mono ?_;rintro e K ⟨v,rfl,iU,bz⟩;obtain⟨E,G,C,y⟩:=iU;subst C;have fS:=yh ((dZ.o.trans (bz.mono dZ.o.size)).alloc (k9 dZ.o.size bz.size) (.cells #[.int .i64 (((am l r).1:Nat):Int), .int .i64 (((am l r).2.1:Nat):Int), .slice E (am l r).2.2.1.length G] 217));clear i y bz ff eh aW bX dZ;have VH:=XY.o;clear XY;generalize (am l r).1=A at*;generalize (am l r).2.1=B at*;generalize (am l r).2.2.1.length=D at*;go_wp2;go_ret3;exact⟨rfl,fS.o⟩
def NI (a:Option Addr) (n c:Nat) (l:List Int) (p:Option Addr) (m d:Nat) (r:List Int) (k:Option Addr) (q x:Nat) (b:List Int) (num:Int) (w:World) (H:Src w a n l) (br:Src w p m r) (hl:Bytes l) (hr:Bytes r) (kP:n=512/\m=512) (N:Nat) (fE:num=(N:Int)) (vx:1<=N) (XZ:N<9223372036854775808) (fM:Src w k q b) (Mu:Bytes b) (y:q<=496) (tM:k=none->x=0) (VH:(am l r).2.1<N) (O:(am l r).1<=1) (Gr:(if (am l r).2.1=0 then 0 else 1-(am l r).1)=0):
  Calls prog 149 #[.slice a n c, .slice p m d,iV num, .slice k q x] w λe w'=>∃g,e= .returned (.tuple #[iV 0, .slice (some (aD g 0)) 512 512,iV 0])/\kh w' 211 g (bh (cG (l.getD 0 0) (l.getD 511 0)) (aS N ++ b))/\w.heap.size<=g/\bW w w':=by
 subst fE;obtain⟨UF,yt⟩:=kP;subst UF;subst yt;have Fz:(decide (512=512) && decide (512=512))=true:=rfl;obtain⟨XY,L,Gs⟩:=kI VH O Gr;clear VH O Gr;obtain⟨T,qV,em,hz,h1,CQ,vv,aW,bX⟩:=M9 (yh fM) fM.1 jl kN (jt a 512 c l p 512 d r w H br) H.1 br.1 (ki (aT l) (aT r)) (all_oneCell_toArray (cF (bQ l ++ bQ r)));have rW:(bs (bQ l ++ bQ r)).length=1024:=by rw [bs,jF,ee,aT,aT]
 obtain⟨F,z⟩:=bP (bs (bQ l ++ bQ r));rw [<-z] at h1 aW bX rW;have U:=yh z;clear z H br fM;go_in;go_wp2_with fail;refine bJ h1 λw1 ar=>?_;have bT:(w1.alloc (.cells cW 213)).heap[w1.heap.size]? =some (.cells cW 213 (0,0)):=heap_alloc_new _ _;have eh:=cH bT dh;rw [<-rW] at eh;have bN:bW w (w1.alloc (.cells cW 213)):=ar.alloc ar.size _;have eM:=ar.size;have eV:=bN.trans ((aa.setCells (F:=λj=>j=w1.heap.size) rfl F 0 _).below (λj Z=>by omega) bN.size);have aV:=eO (l:=bQ l ++ bQ r) bT (by rw [dh,ee,aT,aT]);rw [<-U.o] at aV;obtain⟨w2,dN⟩:=bP ((w1.alloc (.cells cW 213)).setCells w1.heap.size 0 F);rw [<-dN] at eV aV;obtain⟨dZ,sF,ff⟩:=kI eV aV dN;clear h1 bT bN ar eV aV dN;rw [Fz];rw [(gO CQ),(gO vv)] at sF;obtain⟨s1,s2⟩:=qY sF.o CQ vv;have Q:=oF w1.heap.size l r w2 s1 s2 hl hr;have pd:=yh s1;clear s1 s2 sF;go_wp2_with (refine wpList_store_mid rfl 213 _ _ rfl w1.heap.size 0 F.toArray rfl rfl ?h1 ?h2 bX ?_);case h1=>simpa using eh
 case h2=>simpa using aW
 rw [<-ff.o];refine Q.mono ?_;rintro e K ⟨v,rfl,iU,bz⟩;obtain⟨R,S,hv,hq⟩:=iU;subst hv;have jY:=dZ.o.trans (bz.mono dZ.o.size);have eJ:bW K (K.alloc (.cells #[.int .i64 (((am l r).1:Nat):Int), .int .i64 (((am l r).2.1:Nat):Int), .slice R (am l r).2.2.1.length S] 217)):=(bi _ K).alloc (bR _) _;obtain⟨jZ,M,E⟩:=kI (jY.trans (eJ.mono jY.size)) ((pd.o.later bz).later eJ) (λw'=>CR (am l r).1 (am l r).2.1 (.slice R (am l r).2.2.1.length S) w' L.o);rw [Gs.o] at E;have ah1:¬(N:Int)<=(((am l r).2.1:Nat):Int):=by have:=XY.o;omega
 clear XY L Gs;clear Q hq bz ff eh aW bX dZ jY eJ pd;generalize (am l r).1=A at*;generalize (am l r).2.1=B at*;generalize (am l r).2.2.1.length=D at*;go_wp2_with fail;refine(E.out _).mono ?_;rintro e w5 ⟨rfl,fd⟩;obtain⟨jr,ZG⟩:=bV (jZ.o.trans (fd.mono jZ.o.size)) (M.o.later fd);have s:=ZG.o.2.2 _ rfl 0 (by omega);have u:=ZG.o.2.2 _ rfl 511 (by omega);rw [aN] at s u;have I:=oB w1.heap.size 0 (l.getD 0 0) (l.getD 511 0) w5 s u;have ht:=gw (l.getD 0 0) (l.getD 511 0);obtain⟨t,xE⟩:=bP (cG (l.getD 0 0) (l.getD 511 0));rw [<-xE] at ht I;have QY:=yh xE;clear E fd jZ M s u xE;go_wp2_with fail;refine bJ I λw' P=>?_;have eR:=P.symm;subst eR;clear P I;go_wp2_with fail;refine(pZ N k q x b w5 XZ (T.o.later jr.o) y tM).mono ?_;rintro e w6 ⟨v6,rfl,XW,nL⟩;obtain⟨p6,Y,rfl,UG,_,_⟩:=XW.src;have lF:(aS N ++ b).length=8+q:=by rw [ee,dQ,qV]
 rw [lF] at UG⊢;have xG:=yh (jr.o.trans (nL.mono jr.o.size));have J:=oD t p6 (8+q) Y (aS N ++ b) w6 (by omega) UG (by omega) ((iQ N).append Mu);have j1:(bh t (aS N ++ b)).length=512:=fx (by omega);have zv:=jc (l:=bh t (aS N ++ b)) j1;have Gt:=all_oneCell_toArray (cF (bh t (aS N ++ b)));have D5:(bs (bh t (aS N ++ b))).length=512:=by rw [bs,jF,j1]
 obtain⟨G,C⟩:=bP (bs (bh t (aS N ++ b)));rw [<-C] at J zv Gt D5;have W:=yh C;clear XW nL UG jr C;generalize 8+q=Q8 at*;go_wp2_with fail;refine bJ J λf xI=>?_;have BU:=xG.o.trans (xI.mono xG.o.size);have UH:(f.alloc (.cells bo 211)).heap[f.heap.size]? =some (.cells bo 211 (0,0)):=heap_alloc_new _ _;have eh:=cH UH cT;rw [<-D5] at eh;have aV:=eO (l:=bh t (aS N ++ b)) UH (by rw [cT,j1]);rw [<-W.o] at aV;have ah2:=BU.size;have NC:bW w (f.alloc (.cells bo 211)):=BU.alloc BU.size _;have i:=NC.trans ((aa.setCells (F:=λj=>j=f.heap.size) rfl G 0 _).below (λj Z=>by omega) NC.size);rw [QY.o] at aV;have X:=yh (λj=>aH (aV.aw (w':=((f.alloc (.cells bo 211)).setCells f.heap.size 0 G).drewN j) rfl) (aH BU.size (below_drewN i j)));clear J xI BU UH aV NC i xG;go_wp2_with (refine wpList_store_mid rfl 211 _ _ rfl f.heap.size 0 G.toArray rfl rfl ?h1 ?h2 Gt ?_);case h1=>simpa using eh
 case h2=>simpa using zv
 go_quiet (fail);go_wp2;go_ret3;exact⟨f.heap.size,rfl,X.o _⟩
def NJ (a:Option Addr) (n c:Nat) (l:List Int) (p:Option Addr) (m d:Nat) (r:List Int) (k:Option Addr) (q x:Nat) (b:List Int) (num:Int) (w:World) (H:Src w a n l) (br:Src w p m r) (hl:Bytes l) (hr:Bytes r) (kP:n=512/\m=512) (N:Nat) (fE:num=(N:Int)) (vx:1<=N) (XZ:N<9223372036854775808) (fM:Src w k q b) (Mu:Bytes b) (y:q<=496) (tM:k=none->x=0) (VH:(am l r).2.1<N) (O:(am l r).1<=1) (Gr:(if (am l r).2.1=0 then 0 else 1-(am l r).1)=1):
  Calls prog 149 #[.slice a n c, .slice p m d,iV num, .slice k q x] w λe w'=>∃g,e= .returned (.tuple #[iV 1, .slice (some (aD g 0)) 512 512,iV 0])/\kh w' 211 g (bh (cG (r.getD 0 0) (r.getD 511 0)) (aS N ++ b))/\w.heap.size<=g/\bW w w':=by
 subst fE;obtain⟨UF,yt⟩:=kP;subst UF;subst yt;have Fz:(decide (512=512) && decide (512=512))=true:=rfl;obtain⟨XY,L,Gs⟩:=kI VH O Gr;clear VH O Gr;obtain⟨T,qV,em,hz,h1,CQ,vv,aW,bX⟩:=M9 (yh fM) fM.1 jl kN (jt a 512 c l p 512 d r w H br) H.1 br.1 (ki (aT l) (aT r)) (all_oneCell_toArray (cF (bQ l ++ bQ r)));have rW:(bs (bQ l ++ bQ r)).length=1024:=by rw [bs,jF,ee,aT,aT]
 obtain⟨F,z⟩:=bP (bs (bQ l ++ bQ r));rw [<-z] at h1 aW bX rW;have U:=yh z;clear z H br fM;go_in;go_wp2_with fail;refine bJ h1 λw1 ar=>?_;have bT:(w1.alloc (.cells cW 213)).heap[w1.heap.size]? =some (.cells cW 213 (0,0)):=heap_alloc_new _ _;have eh:=cH bT dh;rw [<-rW] at eh;have bN:bW w (w1.alloc (.cells cW 213)):=ar.alloc ar.size _;have eM:=ar.size;have eV:=bN.trans ((aa.setCells (F:=λj=>j=w1.heap.size) rfl F 0 _).below (λj Z=>by omega) bN.size);have aV:=eO (l:=bQ l ++ bQ r) bT (by rw [dh,ee,aT,aT]);rw [<-U.o] at aV;obtain⟨w2,dN⟩:=bP ((w1.alloc (.cells cW 213)).setCells w1.heap.size 0 F);rw [<-dN] at eV aV;obtain⟨dZ,sF,ff⟩:=kI eV aV dN;clear h1 bT bN ar eV aV dN;rw [Fz];rw [(gO CQ),(gO vv)] at sF;obtain⟨s1,s2⟩:=qY sF.o CQ vv;have Q:=oF w1.heap.size l r w2 s1 s2 hl hr;have xJ:=yh s2;clear s1 s2 sF;go_wp2_with (refine wpList_store_mid rfl 213 _ _ rfl w1.heap.size 0 F.toArray rfl rfl ?h1 ?h2 bX ?_);case h1=>simpa using eh
 case h2=>simpa using aW
 rw [<-ff.o];refine Q.mono ?_;rintro e K ⟨v,rfl,iU,bz⟩;obtain⟨R,S,hv,hq⟩:=iU;subst hv;have jY:=dZ.o.trans (bz.mono dZ.o.size);have eJ:bW K (K.alloc (.cells #[.int .i64 (((am l r).1:Nat):Int), .int .i64 (((am l r).2.1:Nat):Int), .slice R (am l r).2.2.1.length S] 217)):=(bi _ K).alloc (bR _) _;obtain⟨jZ,M,E⟩:=kI (jY.trans (eJ.mono jY.size)) ((xJ.o.later bz).later eJ) (λw'=>CR (am l r).1 (am l r).2.1 (.slice R (am l r).2.2.1.length S) w' L.o);rw [Gs.o] at E;have ah1:¬(N:Int)<=(((am l r).2.1:Nat):Int):=by have:=XY.o;omega
 clear XY L Gs;clear Q hq bz ff eh aW bX dZ jY eJ xJ;generalize (am l r).1=A at*;generalize (am l r).2.1=B at*;generalize (am l r).2.2.1.length=D at*;go_wp2_with fail;refine(E.out _).mono ?_;rintro e w5 ⟨rfl,fd⟩;obtain⟨jr,ZG⟩:=bV (jZ.o.trans (fd.mono jZ.o.size)) (M.o.later fd);have s:=ZG.o.2.2 _ rfl 0 (by omega);have u:=ZG.o.2.2 _ rfl 511 (by omega);rw [aN] at s u;have I:=oB w1.heap.size 512 (r.getD 0 0) (r.getD 511 0) w5 s u;have ht:=gw (r.getD 0 0) (r.getD 511 0);obtain⟨t,xE⟩:=bP (cG (r.getD 0 0) (r.getD 511 0));rw [<-xE] at ht I;have QY:=yh xE;clear E fd jZ M s u xE;go_wp2_with fail;refine bJ I λw' P=>?_;have eR:=P.symm;subst eR;clear P I;go_wp2_with fail;refine(pZ N k q x b w5 XZ (T.o.later jr.o) y tM).mono ?_;rintro e w6 ⟨v6,rfl,XW,nL⟩;obtain⟨p6,Y,rfl,UG,_,_⟩:=XW.src;have lF:(aS N ++ b).length=8+q:=by rw [ee,dQ,qV]
 rw [lF] at UG⊢;have xG:=yh (jr.o.trans (nL.mono jr.o.size));have J:=oD t p6 (8+q) Y (aS N ++ b) w6 (by omega) UG (by omega) ((iQ N).append Mu);have j1:(bh t (aS N ++ b)).length=512:=fx (by omega);have zv:=jc (l:=bh t (aS N ++ b)) j1;have Gt:=all_oneCell_toArray (cF (bh t (aS N ++ b)));have D5:(bs (bh t (aS N ++ b))).length=512:=by rw [bs,jF,j1]
 obtain⟨G,C⟩:=bP (bs (bh t (aS N ++ b)));rw [<-C] at J zv Gt D5;have W:=yh C;clear XW nL UG jr C;generalize 8+q=Q8 at*;go_wp2_with fail;refine bJ J λf xI=>?_;have BU:=xG.o.trans (xI.mono xG.o.size);have UH:(f.alloc (.cells bo 211)).heap[f.heap.size]? =some (.cells bo 211 (0,0)):=heap_alloc_new _ _;have eh:=cH UH cT;rw [<-D5] at eh;have aV:=eO (l:=bh t (aS N ++ b)) UH (by rw [cT,j1]);rw [<-W.o] at aV;have ah2:=BU.size;have NC:bW w (f.alloc (.cells bo 211)):=BU.alloc BU.size _;have i:=NC.trans ((aa.setCells (F:=λj=>j=f.heap.size) rfl G 0 _).below (λj Z=>by omega) NC.size);rw [QY.o] at aV;have X:=yh (λj=>aH (aV.aw (w':=((f.alloc (.cells bo 211)).setCells f.heap.size 0 G).drewN j) rfl) (aH BU.size (below_drewN i j)));clear J xI BU UH aV NC i xG;go_wp2_with (refine wpList_store_mid rfl 211 _ _ rfl f.heap.size 0 G.toArray rfl rfl ?h1 ?h2 Gt ?_);case h1=>simpa using eh
 case h2=>simpa using zv
 go_quiet (fail);go_wp2;go_ret3;exact⟨f.heap.size,rfl,X.o _⟩
def Ea (l r:List Int):(am l r).1<=1:=by
 unfold am;split
 .simp
 .split
  .simp
  .split <;> simp
def lL {r:List Int} (b:l.length=512) (c:r.length=512):((am l r).2.2.2=0/\0<(am l r).2.1)\/((am l r).2.2.2=30/\(am l r).2.1=0/\(am l r).1=0):=by
 rw [l7 b c];by_cases q:(az l).1=0/\(az r).1=0
 .rw [aG q];exact .inr ⟨rfl,rfl,rfl⟩
 .rw [aB q];by_cases a:(az l).1<(az r).1
  .rw [aG a];exact .inl ⟨rfl,by simp only;omega⟩
  .rw [aB a];exact .inl ⟨rfl,by simp only;omega⟩
def NK (a:Option Addr) (n c:Nat) (l:List Int) (k:Option Addr) (m d:Nat) (r:List Int) (j:Option Addr) (q o:Nat) (b:List Int) (num:Int) (w:World) (s:Src w a n l) (br:Src w k m r) (y:Bytes l) (z:Bytes r)
    (fM:Src w j q b) (Mu:Bytes b) (tM:j=none->o=0) (D:num<=9223372036854775807):
  Calls prog 149 #[.slice a n c, .slice k m d,iV num, .slice j q o] w λe w'=>∃v,e= .returned (.tuple #[iV (((aP l r num b).1:Nat):Int),v,iV (((aP l r num b).2.2:Nat):Int)])/\yo w' w.heap.size v (aP l r num b).2.1/\bW w w':=by
 obtain⟨CQ,vv,Eb⟩:=kH s.1 br.1 fM.1;by_cases kP:n=512/\m=512
 .by_cases p:num<1
  .refine(NF a n c l k m d r j q o num w s br kP p).mono ?_;rintro e w' ⟨rfl,i⟩;have f:aP l r num b=(0, [],1):=(by unfold aP;rw [aB (by omega),aG p]);rw [f];exact⟨_,rfl,yo.nil _ _,i⟩
  .by_cases C:496<q
   .refine(NG a n c l k m d r j q o num w s br kP p C).mono ?_;rintro e w' ⟨rfl,i⟩;have f:aP l r num b=(0, [],7):=(by unfold aP;rw [aB (by omega),aB p,aG (by omega)]);rw [f];exact⟨_,rfl,yo.nil _ _,i⟩
   .by_cases t:num<=(((am l r).2.1:Nat):Int)
    .refine(NH a n c l k m d r j q o num w s br y z kP p (by omega) t).mono ?_;rintro e w' ⟨rfl,i⟩;have f:aP l r num b=(0, [],31):=(by unfold aP;rw [aB (by omega),aB p,aB (by omega)];simp only;rw [aG t]);rw [f];exact⟨_,rfl,yo.nil _ _,i⟩
    .obtain⟨N,u⟩:∃N:Nat,num=(N:Int):=⟨num.toNat,by omega⟩;have A:=Ea l r;have jd:=lL (l:=l) (r:=r) (by omega) (by omega);have qV:(aS N ++ b).length<=504:=(by rw [ee,dQ];omega);by_cases yM:(am l r).2.2.2=0/\(am l r).1=0
     .refine(NJ a n c l k m d r j q o b num w s br y z kP N u (by omega) (by omega) fM Mu (by omega) tM (by omega) A (by rw [aB (by omega)];omega)).mono ?_;rintro e w' ⟨g,rfl,aV,x,i⟩;have f:aP l r num b=(1,bh (cG (r.getD 0 0) (r.getD 511 0)) (aS N ++ b),0):=(by unfold aP;rw [aB (by omega),aB p,aB (by omega)];simp only;rw [aB t,aG yM,u,mx]);rw [f];have:=aV.lst x;rw [fx qV] at this;exact⟨_,rfl,this,i⟩
     .refine(NI a n c l k m d r j q o b num w s br y z kP N u (by omega) (by omega) fM Mu (by omega) tM (by omega) A (by split <;> omega)).mono ?_;rintro e w' ⟨g,rfl,aV,x,i⟩;have f:aP l r num b=(0,bh (cG (l.getD 0 0) (l.getD 511 0)) (aS N ++ b),0):=(by unfold aP;rw [aB (by omega),aB p,aB (by omega)];simp only;rw [aB t,aB yM,u,mx]);rw [f];have:=aV.lst x;rw [fx qV] at this;exact⟨_,rfl,this,i⟩
 .refine(NE a n c l k m d r j q o num w s br kP).mono ?_;rintro e w' ⟨rfl,i⟩;have f:aP l r num b=(0, [],2):=by unfold aP;rw [aG (by omega)]
  rw [f];exact⟨_,rfl,yo.nil _ _,i⟩
def qZ (a:Option Addr) (n c:Nat) (l:List Int) (f:Option Addr) (m d:Nat) (r:List Int) (k:Option Addr) (q o:Nat) (num:Int) (w:World) (y:Src w a n l) (br:Src w f m r) (s:Bytes l) (x:Bytes r) (b:Int)
    (h:((am l r).2.2.2=2/\b=2)\/((am l r).2.2.2≠2/\num<1/\b=1)\/((am l r).2.2.2≠2/\¬num<1/\496<q/\b=7)\/((am l r).2.2.2=0/\¬num<1/\¬496<q/\num<=(((am l r).2.1:Nat):Int)/\b=31)):
  Calls prog 162 #[.slice a n c, .slice f m d,iV num, .slice k q o] w λe w'=>e= .returned (.tuple #[iV 0, .slice none 0 0,iV b])/\bW w w':=by
 have i:=mE a n c l f m d r w y br s x;generalize am l r=T at*;obtain⟨A,B,D,E⟩:=T
 dsimp only at i h
 go_in;go_wp2_with fail;refine i.mono ?_;rintro e w1 ⟨v,rfl,_,ar⟩;have h:=h;rcases h with ⟨rfl,rfl⟩|⟨p,j,rfl⟩|⟨p,j,u,rfl⟩|⟨rfl,j,u,t,rfl⟩
 .go_wp2;go_ret3;exact⟨rfl,ar⟩
 .have g:((E:Int) == 2)=false:=by rw [fy];omega
  go_wp2;go_ret3;exact⟨rfl,ar⟩
 .have g:((E:Int) == 2)=false:=by rw [fy];omega
  have XS:496<(q:Int):=by omega
  go_wp2;go_ret3;exact⟨rfl,ar⟩
 .have XS:¬496<(q:Int):=by omega
  go_wp2;go_ret3;exact⟨rfl,ar⟩
def J9 (b1 z c:Nat) (l:List Int) (b2 L d:Nat) (r:List Int) (U:Option Addr) (q Z:Nat) (a:List Int) (N:Nat) (num:Int) (fE:num=(N:Int)) (w:World) (y:Src w (some (aD b1 z)) 512 l) (br:Src w (some (aD b2 L)) 512 r) (K:Bytes l) (hr:Bytes r)
    (fM:Src w U q a) (Mu:Bytes a) (vx:1<=N) (XZ:N<9223372036854775808) (hq:q<=496) (bj:(am l r).2.1<N) (I:¬((am l r).2.2.2=0/\(am l r).1=0)):
  Calls prog 162 #[.slice (some (aD b1 z)) 512 c, .slice (some (aD b2 L)) 512 d,iV num, .slice U q Z] w λe w'=>∃v,e= .returned (.tuple #[iV 0,v,iV 0])/\Own w' w.heap.size v (bh (cG (l.getD 0 0) (l.getD 511 0)) (aS N ++ a))/\bW w w':=by
 have G:=mE (some (aD b1 z)) 512 c l (some (aD b2 L)) 512 d r w y br K hr;have u:(am l r).2.2.2≠2:=by rcases lL y.1 br.1 with h|h <;> omega
 obtain⟨S,ZH,C,qV⟩:=cP (yh y) y.1 (yh fM) fM.1;generalize am l r=T at*;obtain⟨A,B,D,E⟩:=T
 dsimp only at G bj I u
 have hE':((E:Int) == 2)=false:=by rw [fy];omega
 have ah4:¬num<1:=by omega
 have ah5:¬num<=(B:Int):=by omega
 have R:=yh fE;clear fE;have X:=yh I;clear y br fM I bj u;go_in;go_wp2_with fail;refine G.mono ?_;rintro e w1 ⟨v,rfl,_,ar⟩;have cQ:=yh ar;have dE:=ar.size;clear G ar;by_cases H:E=0
 .subst H;have hA0:((A:Int) == 0)=false:=by rw [fy];have hA:A≠0:=λh=>X.o ⟨rfl,h⟩;omega
  rw [show (((0:Nat)):Int)=0 by rfl];go_wp2;go_loopw [15,16,17] (λv x i wr=>∃k:Nat,k<=8/\i=iV k/\x=iV ((N / 256 ^ k:Nat):Int)/\Own wr w1.heap.size v (bD k N)/\bW w1 wr) (λ_ _ i _=>8-(intOf i).toNat);case atStart=>exact⟨0,dL _,rfl,by rw [R.o];simp,Own.nil _ _,bi _ _⟩
  case round=>
   obtain⟨k,J,rfl,rfl,aA,ey⟩:=hrel;have bw:=yh aA;have b:=yh ey;have g:=ey.size;clear aA ey;by_cases bq:k<8
   .have cC:(k:Int)<8:=(by omega);have s:N / 256 ^ (k+1)=N / 256 ^ k / 256:=(by rw [Nat.div_div_eq_div_mul,Nat.pow_succ]);have n:=i9 k N;rw [show (2:Nat) ^ (8*k)=256 ^ k by rw [Nat.pow_mul]] at n;have hQ:N / 256 ^ k<9223372036854775808:=Nat.lt_of_le_of_lt (Nat.div_le_self _ _) XZ;generalize N / 256 ^ k=Q at*;have q1:((Q:Int)).tmod 256=((Q%256:Nat):Int):=(by rw [yI (by omega)];omega);have q2:((Q:Int)).tdiv 256=((Q / 256:Nat):Int):=(by rw [Int.tdiv_eq_ediv_of_nonneg (by omega)];omega);have PM:=yh s;have Mp:=yh n;have j8:=aK k N;clear s n;go_wp2_with (at_builtin;refine cq rfl _ _ rfl w1.heap.size u15 _ _ rfl rfl bw.o ?b1 ?b2 ?_);case b1=>omega
    case b2=>exact g
    intro p w' f eI;have m:Yh (Own w' w1.heap.size p (bD (k+1) N)):=(by rw [Mp.o];exact f);have xF:=yh (b.o.trans (eI.mono (bR _)));clear f eI bw b Mp;go_wp2;go_roundw;case rel=>exact⟨k+1,by omega,by go_num,by rw [PM.o];simp,m.o,xF.o⟩
    case measure=>simp [intOf];omega
   .have cC:¬(k:Int)<8:=(by omega);obtain rfl:k=8:=(by omega);rw [VG] at bw;have i8:Yh (Own wr w1.heap.size u15 (aS N ++ a.take 0)):=(by show Own wr w1.heap.size u15 (aS N ++ []);rw [List.append_nil];exact bw.o);clear bw;go_wp2;go_loopw [15,18] (λv i wx=>∃k:Nat,k<=q/\i=iV k/\Own wx w1.heap.size v (aS N ++ a.take k)/\bW w1 wx) (λ_ i _=>q-(intOf i).toNat);case atStart=>exact⟨0,dL _,rfl,i8.o,b.o⟩
    case round=>
     clear i8 b g;obtain⟨k,J,rfl,aA,ey⟩:=hrel;have bw:=yh aA;have b:=yh ey;have g:=ey.size;clear aA ey;have j8:(aS N ++ a.take k).length=8+k:=(by rw [ee,dQ,oj];omega);by_cases bq:k<q
     .have cC:(k:Int)<(q:Int):=(by omega);obtain⟨Y,o3,rfl⟩:=cZ C.o (by omega);have oG:=C.o.2.2 _ rfl k bq;rw [aN] at oG;have oG:=cell_later (cQ.o.trans (b.o.mono dE)) oG;have CK:=yh (kf a k (by omega));generalize a.getD k 0=x at*;go_wp2_with (at_builtin;refine cq rfl _ _ rfl w1.heap.size u15 _ x rfl rfl bw.o ?b1 ?b2 ?_);case b1=>omega
      case b2=>exact g
      intro p w' f eI;have m:Yh (Own w' w1.heap.size p (aS N ++ a.take (k+1))):=(by rw [<-CK.o];first|exact f|(rw [<-rG];exact f));have xF:=yh (b.o.trans (eI.mono (bR _)));clear f eI bw b CK;go_wp2;go_roundw;case rel=>exact⟨k+1,by omega,by go_num,m.o,xF.o⟩
      case measure=>simp [intOf];omega
     .have cC:¬(k:Int)<(q:Int):=(by omega);have t:a.take k=a:=nC (by omega);rw [t] at bw j8;obtain⟨O,P,rfl,sB,_,_⟩:=bw.o.src;have Rg:=cQ.o.trans (b.o.mono dE);have Nt:(aS N ++ a).length<=504:=(by omega);have j:=qW (some (aD b1 z)) 512 c l O (aS N ++ a).length P (aS N ++ a) wr (S.o.later Rg) sB ((iQ N).append Mu) K;rw [zj ZH Nt] at j
      dsimp only at j
      have mr:=yh Rg;clear t sB Rg j8 bw b;generalize (aS N ++ a).length=W at*;go_wp2_with fail;refine j.mono ?_;rintro e w5 ⟨M,rfl,BT,fd⟩;have F:=yh (aH (Own.down BT mr.o.size) (mr.o.trans (fd.mono mr.o.size)));clear j BT fd;go_wp2;go_ret3;exact⟨M,rfl,F.o⟩
 .have aoy:((E:Int) == 0)=false:=by rw [fy];omega
  go_wp2;go_loopw [15,16,17] (λv x i wr=>∃k:Nat,k<=8/\i=iV k/\x=iV ((N / 256 ^ k:Nat):Int)/\Own wr w1.heap.size v (bD k N)/\bW w1 wr) (λ_ _ i _=>8-(intOf i).toNat);case atStart=>exact⟨0,dL _,rfl,by rw [R.o];simp,Own.nil _ _,bi _ _⟩
  case round=>
   obtain⟨k,J,rfl,rfl,aA,ey⟩:=hrel;have bw:=yh aA;have b:=yh ey;have g:=ey.size;clear aA ey;by_cases bq:k<8
   .have cC:(k:Int)<8:=(by omega);have s:N / 256 ^ (k+1)=N / 256 ^ k / 256:=(by rw [Nat.div_div_eq_div_mul,Nat.pow_succ]);have n:=i9 k N;rw [show (2:Nat) ^ (8*k)=256 ^ k by rw [Nat.pow_mul]] at n;have hQ:N / 256 ^ k<9223372036854775808:=Nat.lt_of_le_of_lt (Nat.div_le_self _ _) XZ;generalize N / 256 ^ k=Q at*;have q1:((Q:Int)).tmod 256=((Q%256:Nat):Int):=(by rw [yI (by omega)];omega);have q2:((Q:Int)).tdiv 256=((Q / 256:Nat):Int):=(by rw [Int.tdiv_eq_ediv_of_nonneg (by omega)];omega);have PM:=yh s;have Mp:=yh n;have j8:=aK k N;clear s n;go_wp2_with (at_builtin;refine cq rfl _ _ rfl w1.heap.size u15 _ _ rfl rfl bw.o ?b1 ?b2 ?_);case b1=>omega
    case b2=>exact g
    intro p w' f eI;have m:Yh (Own w' w1.heap.size p (bD (k+1) N)):=(by rw [Mp.o];exact f);have xF:=yh (b.o.trans (eI.mono (bR _)));clear f eI bw b Mp;go_wp2;go_roundw;case rel=>exact⟨k+1,by omega,by go_num,by rw [PM.o];simp,m.o,xF.o⟩
    case measure=>simp [intOf];omega
   .have cC:¬(k:Int)<8:=(by omega);obtain rfl:k=8:=(by omega);rw [VG] at bw;have i8:Yh (Own wr w1.heap.size u15 (aS N ++ a.take 0)):=(by show Own wr w1.heap.size u15 (aS N ++ []);rw [List.append_nil];exact bw.o);clear bw;go_wp2;go_loopw [15,18] (λv i wx=>∃k:Nat,k<=q/\i=iV k/\Own wx w1.heap.size v (aS N ++ a.take k)/\bW w1 wx) (λ_ i _=>q-(intOf i).toNat);case atStart=>exact⟨0,dL _,rfl,i8.o,b.o⟩
    case round=>
     clear i8 b g;obtain⟨k,J,rfl,aA,ey⟩:=hrel;have bw:=yh aA;have b:=yh ey;have g:=ey.size;clear aA ey;have j8:(aS N ++ a.take k).length=8+k:=(by rw [ee,dQ,oj];omega);by_cases bq:k<q
     .have cC:(k:Int)<(q:Int):=(by omega);obtain⟨Y,o3,rfl⟩:=cZ C.o (by omega);have oG:=C.o.2.2 _ rfl k bq;rw [aN] at oG;have oG:=cell_later (cQ.o.trans (b.o.mono dE)) oG;have CK:=yh (kf a k (by omega));generalize a.getD k 0=x at*;go_wp2_with (at_builtin;refine cq rfl _ _ rfl w1.heap.size u15 _ x rfl rfl bw.o ?b1 ?b2 ?_);case b1=>omega
      case b2=>exact g
      intro p w' f eI;have m:Yh (Own w' w1.heap.size p (aS N ++ a.take (k+1))):=(by rw [<-CK.o];first|exact f|(rw [<-rG];exact f));have xF:=yh (b.o.trans (eI.mono (bR _)));clear f eI bw b CK;go_wp2;go_roundw;case rel=>exact⟨k+1,by omega,by go_num,m.o,xF.o⟩
      case measure=>simp [intOf];omega
     .have cC:¬(k:Int)<(q:Int):=(by omega);have t:a.take k=a:=nC (by omega);rw [t] at bw j8;obtain⟨O,P,rfl,sB,_,_⟩:=bw.o.src;have Rg:=cQ.o.trans (b.o.mono dE);have Nt:(aS N ++ a).length<=504:=(by omega);have j:=qW (some (aD b1 z)) 512 c l O (aS N ++ a).length P (aS N ++ a) wr (S.o.later Rg) sB ((iQ N).append Mu) K;rw [zj ZH Nt] at j
      dsimp only at j
      have mr:=yh Rg;clear t sB Rg j8 bw b;generalize (aS N ++ a).length=W at*;go_wp2_with fail;refine j.mono ?_;rintro e w5 ⟨M,rfl,BT,fd⟩;have F:=yh (aH (Own.down BT mr.o.size) (mr.o.trans (fd.mono mr.o.size)));clear j BT fd;go_wp2;go_ret3;exact⟨M,rfl,F.o⟩
def Ka (b1 F c:Nat) (l:List Int) (b2 p d:Nat) (r:List Int) (J:Option Addr) (q S:Nat) (a:List Int) (N:Nat) (num:Int) (fE:num=(N:Int)) (w:World) (C:Src w (some (aD b1 F)) 512 l) (br:Src w (some (aD b2 p)) 512 r) (X:Bytes l) (M:Bytes r)
    (fM:Src w J q a) (Mu:Bytes a) (vx:1<=N) (XZ:N<9223372036854775808) (hq:q<=496) (bj:(am l r).2.1<N) (z:(am l r).2.2.2=0/\(am l r).1=0):
  Calls prog 162 #[.slice (some (aD b1 F)) 512 c, .slice (some (aD b2 p)) 512 d,iV num, .slice J q S] w λe w'=>∃v,e= .returned (.tuple #[iV 1,v,iV 0])/\Own w' w.heap.size v (bh (cG (r.getD 0 0) (r.getD 511 0)) (aS N ++ a))/\bW w w':=by
 have u:=mE (some (aD b1 F)) 512 c l (some (aD b2 p)) 512 d r w C br X M;have j:(am l r).2.2.2≠2:=by rcases lL C.1 br.1 with h|h <;> omega
 obtain⟨R,ZH,H,qV⟩:=cP (yh br) br.1 (yh fM) fM.1;generalize am l r=T at*;obtain⟨A,B,D,E⟩:=T
 dsimp only at u bj z j
 have U:((E:Int) == 2)=false:=by rw [fy];omega
 have ah4:¬num<1:=by omega
 have ah5:¬num<=(B:Int):=by omega
 have P:=yh fE;clear fE;have I:=yh z;clear C br fM z bj j;go_in;go_wp2_with fail;refine u.mono ?_;rintro e w1 ⟨v,rfl,_,ar⟩;have cQ:=yh ar;have dE:=ar.size;clear u ar;by_cases g:E=0
 .subst g;have y:=I.o.2;subst y;rw [show (((0:Nat)):Int)=0 by rfl];go_wp2;go_loopw [15,16,17] (λv x i wr=>∃k:Nat,k<=8/\i=iV k/\x=iV ((N / 256 ^ k:Nat):Int)/\Own wr w1.heap.size v (bD k N)/\bW w1 wr) (λ_ _ i _=>8-(intOf i).toNat);case atStart=>exact⟨0,dL _,rfl,by rw [P.o];simp,Own.nil _ _,bi _ _⟩
  case round=>
   obtain⟨k,W,rfl,rfl,aA,ey⟩:=hrel;have bw:=yh aA;have b:=yh ey;have m:=ey.size;clear aA ey;by_cases bq:k<8
   .have cC:(k:Int)<8:=(by omega);have K:N / 256 ^ (k+1)=N / 256 ^ k / 256:=(by rw [Nat.div_div_eq_div_mul,Nat.pow_succ]);have t:=i9 k N;rw [show (2:Nat) ^ (8*k)=256 ^ k by rw [Nat.pow_mul]] at t;have hQ:N / 256 ^ k<9223372036854775808:=Nat.lt_of_le_of_lt (Nat.div_le_self _ _) XZ;generalize N / 256 ^ k=Q at*;have q1:((Q:Int)).tmod 256=((Q%256:Nat):Int):=(by rw [yI (by omega)];omega);have q2:((Q:Int)).tdiv 256=((Q / 256:Nat):Int):=(by rw [Int.tdiv_eq_ediv_of_nonneg (by omega)];omega);have PM:=yh K;have Mp:=yh t;have j8:=aK k N;clear K t;go_wp2_with (at_builtin;refine cq rfl _ _ rfl w1.heap.size u15 _ _ rfl rfl bw.o ?b1 ?b2 ?_);case b1=>omega
    case b2=>exact m
    intro G w' f eI;have s:Yh (Own w' w1.heap.size G (bD (k+1) N)):=(by rw [Mp.o];exact f);have xF:=yh (b.o.trans (eI.mono (bR _)));clear f eI bw b Mp;go_wp2;go_roundw;case rel=>exact⟨k+1,by omega,by go_num,by rw [PM.o];simp,s.o,xF.o⟩
    case measure=>simp [intOf];omega
   .have cC:¬(k:Int)<8:=(by omega);obtain rfl:k=8:=(by omega);rw [VG] at bw;have i8:Yh (Own wr w1.heap.size u15 (aS N ++ a.take 0)):=(by show Own wr w1.heap.size u15 (aS N ++ []);rw [List.append_nil];exact bw.o);clear bw;go_wp2;go_loopw [15,18] (λv i wx=>∃k:Nat,k<=q/\i=iV k/\Own wx w1.heap.size v (aS N ++ a.take k)/\bW w1 wx) (λ_ i _=>q-(intOf i).toNat);case atStart=>exact⟨0,dL _,rfl,i8.o,b.o⟩
    case round=>
     clear i8 b m;obtain⟨k,W,rfl,aA,ey⟩:=hrel;have bw:=yh aA;have b:=yh ey;have m:=ey.size;clear aA ey;have j8:(aS N ++ a.take k).length=8+k:=(by rw [ee,dQ,oj];omega);by_cases bq:k<q
     .have cC:(k:Int)<(q:Int):=(by omega);obtain⟨b3,o3,rfl⟩:=cZ H.o (by omega);have oG:=H.o.2.2 _ rfl k bq;rw [aN] at oG;have oG:=cell_later (cQ.o.trans (b.o.mono dE)) oG;have CK:=yh (kf a k (by omega));generalize a.getD k 0=x at*;go_wp2_with (at_builtin;refine cq rfl _ _ rfl w1.heap.size u15 _ x rfl rfl bw.o ?b1 ?b2 ?_);case b1=>omega
      case b2=>exact m
      intro G w' f eI;have s:Yh (Own w' w1.heap.size G (aS N ++ a.take (k+1))):=(by rw [<-CK.o];first|exact f|(rw [<-rG];exact f));have xF:=yh (b.o.trans (eI.mono (bR _)));clear f eI bw b CK;go_wp2;go_roundw;case rel=>exact⟨k+1,by omega,by go_num,s.o,xF.o⟩
      case measure=>simp [intOf];omega
     .have cC:¬(k:Int)<(q:Int):=(by omega);have L:a.take k=a:=nC (by omega);rw [L] at bw j8;obtain⟨Z,vc,rfl,sB,_,_⟩:=bw.o.src;have Rg:=cQ.o.trans (b.o.mono dE);have Nt:(aS N ++ a).length<=504:=(by omega);have n:=qW (some (aD b2 p)) 512 d r Z (aS N ++ a).length vc (aS N ++ a) wr (R.o.later Rg) sB ((iQ N).append Mu) M;rw [zj ZH Nt] at n
      dsimp only at n
      have mr:=yh Rg;clear L sB Rg j8 bw b;generalize (aS N ++ a).length=BL at*;go_wp2_with fail;refine n.mono ?_;rintro e w5 ⟨Y,rfl,BT,fd⟩;have O:=yh (aH (Own.down BT mr.o.size) (mr.o.trans (fd.mono mr.o.size)));clear n BT fd;go_wp2;go_ret3;exact⟨Y,rfl,O.o⟩
 .exact absurd I.o.1 g
def Kb (a:Option Addr) (n c:Nat) (l:List Int) (p:Option Addr) (m d:Nat) (r:List Int) (g:Option Addr) (q k:Nat) (b:List Int) (num:Int) (w:World) (j:Src w a n l) (br:Src w p m r) (s:Bytes l) (t:Bytes r)
    (fM:Src w g q b) (Mu:Bytes b) (F:num<=9223372036854775807):
  Calls prog 162 #[.slice a n c, .slice p m d,iV num, .slice g q k] w λe w'=>∃v,e= .returned (.tuple #[iV (((aP l r num b).1:Nat):Int),v,iV (((aP l r num b).2.2:Nat):Int)])/\Own w' w.heap.size v (aP l r num b).2.1/\bW w w':=by
 obtain⟨CQ,vv,Eb⟩:=kH j.1 br.1 fM.1;by_cases kP:n=512/\m=512
 .have jd:=lL (l:=l) (r:=r) (by omega) (by omega);by_cases i:num<1
  .refine(qZ a n c l p m d r g q k num w j br s t 1 (.inr (.inl ⟨by omega,i,rfl⟩))).mono ?_;rintro e w' ⟨rfl,o⟩;have f:aP l r num b=(0, [],1):=(by unfold aP;rw [aB (by omega),aG i]);rw [f];exact⟨_,rfl,Own.nil _ _,o⟩
  .by_cases A:496<q
   .refine(qZ a n c l p m d r g q k num w j br s t 7 (.inr (.inr (.inl ⟨by omega,i,A,rfl⟩)))).mono ?_;rintro e w' ⟨rfl,o⟩;have f:aP l r num b=(0, [],7):=(by unfold aP;rw [aB (by omega),aB i,aG (by omega)]);rw [f];exact⟨_,rfl,Own.nil _ _,o⟩
   .by_cases u:num<=(((am l r).2.1:Nat):Int)
    .refine(qZ a n c l p m d r g q k num w j br s t 31 (.inr (.inr (.inr ⟨by omega,i,A,u,rfl⟩)))).mono ?_;rintro e w' ⟨rfl,o⟩;have f:aP l r num b=(0, [],31):=(by unfold aP;rw [aB (by omega),aB i,aB (by omega)];simp only;rw [aG u]);rw [f];exact⟨_,rfl,Own.nil _ _,o⟩
    .obtain⟨N,x⟩:∃N:Nat,num=(N:Int):=⟨num.toNat,by omega⟩;obtain⟨rfl,rfl⟩:=kP;obtain⟨y,C,rfl⟩:=cZ j (by omega);obtain⟨z,D,rfl⟩:=cZ br (by omega);by_cases yM:(am l r).2.2.2=0/\(am l r).1=0
     .have f:aP l r num b=(1,bh (cG (r.getD 0 0) (r.getD 511 0)) (aS N ++ b),0):=(by unfold aP;rw [aB (by omega),aB i,aB (by omega)];simp only;rw [aB u,aG yM,x,mx]);rw [f];exact Ka y C c l z D d r g q k b N num x w j br s t fM Mu (by omega) (by omega) (by omega) (by omega) yM
     .have f:aP l r num b=(0,bh (cG (l.getD 0 0) (l.getD 511 0)) (aS N ++ b),0):=(by unfold aP;rw [aB (by omega),aB i,aB (by omega)];simp only;rw [aB u,aB yM,x,mx]);rw [f];exact J9 y C c l z D d r g q k b N num x w j br s t fM Mu (by omega) (by omega) (by omega) (by omega) yM
 .have E:am l r=(0,0, [],2):=by unfold am;rw [aG (by omega)]
  refine(qZ a n c l p m d r g q k num w j br s t 2 (.inl ⟨by rw [E],rfl⟩)).mono ?_;rintro e w' ⟨rfl,o⟩;have f:aP l r num b=(0, [],2):=by unfold aP;rw [aG (by omega)]
  rw [f];exact⟨_,rfl,Own.nil _ _,o⟩
def rY (l r:List Int):(am l r).2.1<=9223372036854775807:=by
 have a:=kC l;have b:=kC r;unfold am;split
 .simp
 .split
  .simp
  .split <;> simp only <;> omega
def VI (s:Nat) (x:Int) (h:S.fuse=0):S.rd s x=(3,S, []):=aG h
def Rh (h:S.fuse≠0) (a:k<s):S.rd s (k:Int)=(0,S.read,S.now k):=by
 unfold DS.rd;rw [aB h,aB (by omega)];simp
def Out.low {lo b:Nat} (h:Out lo w l v) (g:b<=lo):Out b w l v:=by
 obtain⟨a,c,rfl,d,f⟩:=h;exact⟨a,c,rfl,d,λx e=>k9 g (f x e)⟩
def aa.boxed (F:Nat->Prop) (o:Obj):aa F w (w.alloc o):=aa.alloc F w o
def NL (h:aQ w F p s S) (f n:Int) (aU:S.puts.length+1<=4000000000000) (b:S.fuse=0):
  Calls prog 148 #[kJ p f n] w λe w'=>e= .returned (.tuple #[.slice none 0 0, .slice none 0 0,iV 3])/\aQ w' F p s S/\aa F w w':=by
 have a:=tO (h.boxed (.cells #[.pointer (some ⟨p,0,none⟩), .int .i64 f, .int .i64 n] 144)) f aU;rw [VI _ _ b] at a;go_in;go_wp2_with fail;refine a.mono ?_;rintro e w1 ⟨v,rfl,_,hd,c⟩;go_wp2;go_ret3;exact⟨rfl,hd,(aa.boxed (w:=w) F (.cells #[.pointer (some ⟨p,0,none⟩), .int .i64 f, .int .i64 n] 144)).trans c (λ_ h=> .inl h)⟩
def zw {o:Obj} (b:∀k,F k->k<w.heap.size) (a:aa F (w.alloc o) w1):w1.heap[w.heap.size]? =some o:=by
 rw [a.block w.heap.size (by simp) (λh=>by have:=b _ h;omega)];exact heap_alloc_new _ _
def Mv (h:aQ w F p s S) (f:Nat) (n:Int) (aU:S.puts.length+1<=4000000000000) (l:S.fuse≠0) (o:f+1<s):
  Calls prog 148 #[kJ p f n] w λe w'=>∃v1 c,e= .returned (.tuple #[v1,c,iV 0])/\Out w.heap.size w' (S.now f) v1/\Out w.heap.size w' (S.now (f+1)) c/\aQ w' F p s S.read.read/\aa F w w':=by
 have i:=tO (h.boxed (.cells #[.pointer (some ⟨p,0,none⟩), .int .i64 f, .int .i64 n] 144)) f aU;rw [Rh l (by omega)] at i;have br:=h.ok.hi;have g:=h.lt;go_in;go_wp2_with fail;refine i.mono ?_;rintro e w1 ⟨v,rfl,m,hd,a⟩;have dH:=zw g a;have JK:=aM dH;have Bo:=bG dH;have j:=tO hd ((f+1:Nat):Int) (by simpa [DS.read] using aU);rw [Rh (S:=S.read) l o] at j;have d:=((aa.boxed (w:=w) F (.cells #[.pointer (some ⟨p,0,none⟩), .int .i64 f, .int .i64 n] 144)).trans a (λ_ h=> .inl h));go_wp2_with fail;refine j.mono ?_;rintro e q ⟨c,rfl,jw,cI,aY⟩;have b:=(m.keeps aY (λk a=>by have:=g k a;simp;omega));go_wp2;go_ret3;exact⟨_,_,rfl,b.low (by simp),jw.low d.size,cI,d.trans aY (λ_ h=> .inl h)⟩
def il (l r:List Int):Nat×Nat×Nat:=
 if (am l r).2.2.2≠0\/0<(am l r).2.2.1.length\/(am l r).2.1 / 4294967296<1\/1073741824<(am l r).2.1 / 4294967296\/1073741824<(am l r).2.1%4294967296 then (0,0,6)
 else ((am l r).2.1 / 4294967296,(am l r).2.1%4294967296,0)
def NM (a:Nat) (d:a<9223372036854775808):bits .and .i64 (a:Int) 4294967295=((a%4294967296:Nat):Int):=by
 have b:(BitVec.ofInt 64 (a:Int)).toNat=a:=by rw [BitVec.ofInt_natCast,BitVec.toNat_ofNat];exact Nat.mod_eq_of_lt (by omega)
 have c:(BitVec.ofInt 64 (4294967295:Int)).toNat=2 ^ 32-1:=by decide
 show IntKind.i64.wrap ((BitVec.ofInt 64 (a:Int) &&& BitVec.ofInt 64 (4294967295:Int)).toNat:Int)=_;rw [BitVec.toNat_and,b,c,IntKind.wrap_i64,Nat.and_two_pow_sub_one_eq_mod];omega
def Kc (h:aQ w F p s S) (f:Nat) (n:Int) (aU:S.puts.length+1<=4000000000000) (A:S.fuse≠0) (C:f+1<s) (ar:Bytes (S.now f)) (bd:Bytes (S.now (f+1))):
  Calls prog 153 #[kJ p f n] w λe w'=>e= .returned (.tuple #[iV ((il (S.now f) (S.now (f+1))).1:Int),iV ((il (S.now f) (S.now (f+1))).2.1:Int),iV ((il (S.now f) (S.now (f+1))).2.2:Int)])/\aQ w' F p s S.read.read/\aa F w w':=by
 have m:=aa.boxed (w:=w) F (.cells #[.pointer (some ⟨p,0,none⟩), .int .i64 f, .int .i64 n] 144);have k:=Mv (h.boxed (.cells #[.pointer (some ⟨p,0,none⟩), .int .i64 f, .int .i64 n] 144)) f n aU A C;have L:=rY (l:=S.now f) (r:=S.now (f+1));have o:=λb H d c I g w1 el br=>Gp b H d (S.now f) c I g (S.now (f+1)) w1 el br ar bd;unfold il;generalize (am (S.now f) (S.now (f+1))).2.1=N at*;generalize (am (S.now f) (S.now (f+1))).2.2.2=E at*;generalize (am (S.now f) (S.now (f+1))).2.2.1=D at*;generalize (am (S.now f) (S.now (f+1))).1=K at*;have G:(N:Int) / 4294967296=((N / 4294967296:Nat):Int):=by omega
 have z:=NM N (by omega);have J:N%4294967296<4294967296:=Nat.mod_lt _ (by omega);have O:N / 4294967296<2147483648:=by omega
 generalize N / 4294967296=Q at*;generalize N%4294967296=M at*;by_cases P:E≠0
 .rw [aG (by omega)];go_in;go_wp2_with fail;refine k.mono ?_;rintro e w1 ⟨u,x,rfl,tR,jw,hd,j⟩;obtain⟨b,d,rfl,el,_⟩:=tR;obtain⟨c,g,rfl,br,_⟩:=jw;have i:=(m.trans j (λ_ h=> .inl h));go_wp2_with fail;refine(o b _ d c _ g w1 el br).mono ?_;rintro e y ⟨v,rfl,⟨q,t,rfl,_,_,_⟩,a⟩;have sG:=(hd.aw (aa.ah (λ_=>False) a) (λ_ _ h=>h));go_wp2;go_ret3;exact⟨rfl,sG,i.trans (aa.ah (λ_=>False) a) (λ_ h=>h.elim)⟩
 .obtain rfl:E=0:=by omega
  by_cases R:0<D.length
  .rw [aG (by omega)];go_in;go_wp2_with fail;refine k.mono ?_;rintro e w1 ⟨u,x,rfl,tR,jw,hd,j⟩;obtain⟨b,d,rfl,el,_⟩:=tR;obtain⟨c,g,rfl,br,_⟩:=jw;have i:=(m.trans j (λ_ h=> .inl h));go_wp2_with fail;refine(o b _ d c _ g w1 el br).mono ?_;rintro e y ⟨v,rfl,⟨q,t,rfl,_,_,_⟩,a⟩;have sG:=(hd.aw (aa.ah (λ_=>False) a) (λ_ _ h=>h));go_wp2;go_ret3;exact⟨rfl,sG,i.trans (aa.ah (λ_=>False) a) (λ_ h=>h.elim)⟩
  .obtain rfl:D= []:=List.length_eq_zero_iff.mp (by omega);by_cases T:Q<1
   .rw [aG (by omega)];obtain rfl:Q=0:=(by omega);go_in;go_wp2_with fail;refine k.mono ?_;rintro e w1 ⟨u,x,rfl,tR,jw,hd,j⟩;obtain⟨b,d,rfl,el,_⟩:=tR;obtain⟨c,g,rfl,br,_⟩:=jw;have i:=(m.trans j (λ_ h=> .inl h));go_wp2_with fail;refine(o b _ d c _ g w1 el br).mono ?_;rintro e y ⟨v,rfl,⟨q,t,rfl,_,_,_⟩,a⟩;have sG:=(hd.aw (aa.ah (λ_=>False) a) (λ_ _ h=>h));go_wp2;go_ret3;exact⟨rfl,sG,i.trans (aa.ah (λ_=>False) a) (λ_ h=>h.elim)⟩
   .skip
    by_cases U:1073741824<Q
    .rw [aG (by omega)];go_in;go_wp2_with fail;refine k.mono ?_;rintro e w1 ⟨u,x,rfl,tR,jw,hd,j⟩;obtain⟨b,d,rfl,el,_⟩:=tR;obtain⟨c,g,rfl,br,_⟩:=jw;have i:=(m.trans j (λ_ h=> .inl h));go_wp2_with fail;refine(o b _ d c _ g w1 el br).mono ?_;rintro e y ⟨v,rfl,⟨q,t,rfl,_,_,_⟩,a⟩;have sG:=(hd.aw (aa.ah (λ_=>False) a) (λ_ _ h=>h));go_wp2;go_ret3;exact⟨rfl,sG,i.trans (aa.ah (λ_=>False) a) (λ_ h=>h.elim)⟩
    .skip
     by_cases W:1073741824<M
     .rw [aG (by omega)];go_in;go_wp2_with fail;refine k.mono ?_;rintro e w1 ⟨u,x,rfl,tR,jw,hd,j⟩;obtain⟨b,d,rfl,el,_⟩:=tR;obtain⟨c,g,rfl,br,_⟩:=jw;have i:=(m.trans j (λ_ h=> .inl h));go_wp2_with fail;refine(o b _ d c _ g w1 el br).mono ?_;rintro e y ⟨v,rfl,⟨q,t,rfl,_,_,_⟩,a⟩;have sG:=(hd.aw (aa.ah (λ_=>False) a) (λ_ _ h=>h));go_wp2;go_ret3;exact⟨rfl,sG,i.trans (aa.ah (λ_=>False) a) (λ_ h=>h.elim)⟩
     .skip
      rw [aB (by simp;omega)];go_in;go_wp2_with fail;refine k.mono ?_;rintro e w1 ⟨u,x,rfl,tR,jw,hd,j⟩;obtain⟨b,d,rfl,el,_⟩:=tR;obtain⟨c,g,rfl,br,_⟩:=jw;have i:=(m.trans j (λ_ h=> .inl h));go_wp2_with fail;refine(o b _ d c _ g w1 el br).mono ?_;rintro e y ⟨v,rfl,⟨q,t,rfl,_,_,_⟩,a⟩;have sG:=(hd.aw (aa.ah (λ_=>False) a) (λ_ _ h=>h));go_wp2;go_ret3;exact⟨rfl,sG,i.trans (aa.ah (λ_=>False) a) (λ_ h=>h.elim)⟩
def zx (S:DS) (s f:Nat) (num:Int):Int×DS:=
 let R:=aP (S.now f) (S.now (f+1)) num []
 if R.2.2≠0 then ((R.2.2:Int),S.read.read) else
 let W:=S.read.read.wr s ((f:Int)+(R.1:Int)) 512 R.2.1
 if W.1≠0 then W else W.2.fl s
def aq {b:Nat} {o:Obj} (h:w.heap[b]? =some o):b<w.heap.size:=by
 rcases Nat.lt_or_ge b w.heap.size with a|a
 .exact a
 .rw [Array.getElem?_eq_none a] at h;cases h
def zy {b:World} (e:∀k,F k->k<w.heap.size) (c:aa F w w2) (d:aa F w2 w3) (i:w3.heap.size<=b.heap.size) (h:aQ b (more F w2 w3) p s S):aQ b (more F w b) p s S:=by
 have f:=c.size;have g:=d.size;refine h.mono (λk a=>?_) (λk a=>?_)
 .rcases a with a|a
  .exact .inl a
  .exact .inr ⟨by omega,by omega⟩
 .rcases a with a|a
  .have:=e k a;omega
  .exact a.2
def NN (c:∀k,F k->k<w.heap.size) (a:aa F w w2) (b:aa F w2 w3) (h:aQ w3 (more F w2 w3) p s S):aQ w3 (more F w w3) p s S:=
 zy c a b (bR _) h
def kQ (l r:List Int) (num:Int) (a:List Int) (h0:(aP l r num a).2.2=0):(aP l r num a).2.1.length=512:=by
 have h:∀(t:Int) (N:Nat),a.length<=496->(bh t (aS N ++ a)).length=512:=λt N hd=>by rw [fx (by rw [ee,dQ];omega)]
 revert h0;unfold aP;split
 .intro h0;cases h0
 .split
  .intro h0;cases h0
  .split
   .intro h0;cases h0
   .dsimp only
    split
    .intro h0;cases h0
    .split
     .intro _;exact h _ _ (by omega)
     .intro _;exact h _ _ (by omega)
def fW (l r:List Int) (num:Int) (a:List Int):(aP l r num a).1<=1:=by
 unfold aP;split
 .exact dL _
 .split
  .exact dL _
  .split
   .exact dL _
   .dsimp only
    split
    .exact dL _
    .split
     .exact bR _
     .exact dL _
def NO (h:aQ w F p s S) (f:Nat) (n:Int) (E T:Nat) (hE:E<=1073741824) (hT:T<=1073741824) (aU:S.puts.length+2<=4000000000000) (hf:S.fuse≠0) (hs:f+1<s) (ar:Bytes (S.now f)) (bd:Bytes (S.now (f+1))):
  Calls prog 105 #[kJ p f n,iV (E:Int),iV (T:Int)] w λe w'=>e= .returned (iV (zx S s f ((E:Int)*4294967296+T)).1)/\aQ w' (more F w w') p s (zx S s f ((E:Int)*4294967296+T)).2/\aa F w w':=by
 obtain⟨u,br,A,M⟩:=cP (Mv (h.boxed (.cells #[.pointer (some ⟨p,0,none⟩), .int .i64 f, .int .i64 n] 144)) f n (by omega) hf hs) h.ok.hi (yh h.lt) (yh (aa.boxed (w:=w) F (.cells #[.pointer (some ⟨p,0,none⟩), .int .i64 f, .int .i64 n] 144)));have i:=λl n1 q m n2 r w1 el br=>NK l n1 q (S.now f) m n2 r (S.now (f+1)) none 0 0 [] ((E:Int)*4294967296+T) w1 el br ar bd ⟨rfl,λ_=>rfl,λx U=>by cases U⟩ (by intro x U;cases U) (λ_=>rfl) (by omega);have mX:=fW (S.now f) (S.now (f+1)) ((E:Int)*4294967296+T) [];have CQ:=kQ (S.now f) (S.now (f+1)) ((E:Int)*4294967296+T) [];unfold zx;clear h hf ar bd;obtain⟨R,P⟩:∃R,R=aP (S.now f) (S.now (f+1)) ((E:Int)*4294967296+T) []:=⟨_,rfl⟩;rw [<-P] at mX CQ⊢;simp only [<-P] at i;clear P;obtain⟨K,L,X⟩:=R;simp only at mX CQ i⊢;by_cases W:X≠0
 .rw [aG W];have d0:((X:Int) == 0)=false:=by rw [fy];omega
  go_in;go_wp2_with fail;refine u.mono ?_;rintro e w1 ⟨v1,v2,rfl,tR,jw,hd,d⟩;obtain⟨l,q,rfl,el,_⟩:=tR;obtain⟨m,r,rfl,br,_⟩:=jw;have g:=i l _ q m _ r w1 el br;have y:=yh hd;have z:=yh (M.o.trans d (λ_ h=> .inl h));clear u el br hd d i;go_wp2_with fail;refine g.mono ?_;rintro e w2 ⟨v,rfl,⟨I,J,rfl,_,_,_⟩,c⟩;obtain⟨sG,ii⟩:=bV (y.o.aw (aa.ah (λ_=>False) c) (λ_ _ h=>h)) (z.o.trans (aa.ah (λ_=>False) c) (λ_ h=>h.elim));clear g c;go_wp2;go_ret;exact⟨rfl,sG.o.more,ii.o⟩
 .obtain rfl:X=0:=by omega
  rw [aB W];clear W;have b:=CQ rfl;clear CQ;obtain⟨Y,Q⟩:∃Y,Y=(S.read.read.wr s ((f:Int)+(K:Int)) 512 L):=⟨_,rfl⟩;rw [<-Q];have O:=yh Q;clear Q;by_cases G:Y.1≠0
  .rw [aG G];go_in;go_wp2_with fail;refine u.mono ?_;rintro e w1 ⟨v1,v2,rfl,tR,jw,hd,d⟩;obtain⟨l,q,rfl,el,_⟩:=tR;obtain⟨m,r,rfl,br,_⟩:=jw;have g:=i l _ q m _ r w1 el br;have dH:=zw A.o d;have z:=yh (M.o.trans d (λ_ h=> .inl h));have y:=yh hd;have C:=yh dH;clear u el br hd d i dH;go_wp2_with fail;refine g.mono ?_;rintro e w2 ⟨v,rfl,⟨I,J,rfl,fM,_,_⟩,c⟩;have cI:=y.o.aw (aa.ah (λ_=>False) c) (λ_ _ h=>h);have ii:=yh (z.o.trans (aa.ah (λ_=>False) c) (λ_ h=>h.elim));have dH:=(c.block _ (aq C.o)).trans C.o;have JK:=aM dH;have Bo:=bG dH;have t:=vp cI ((f:Int)+(K:Int)) I _ J L fM (by simpa [DS.read] using (show S.puts.length+1<=4000000000000 by omega));rw [b] at t;have k:=yh dH;clear g c cI fM dH;rw [b];go_wp2_with fail;refine fQ t λw3 a aZ=>?_;have lW:=yh (ii.o.trans aZ (λ_ h=> .inl h));rw [<-O.o] at a⊢;have VJ:=yh (NN A.o ii.o aZ a);have d1:(Y.1 == 0)=false:=(by rw [fy];exact G);clear a aZ t;go_wp2;go_ret;exact⟨rfl,VJ.o,lW.o⟩
  .rw [aB G];go_in;go_wp2_with fail;refine u.mono ?_;rintro e w1 ⟨v1,v2,rfl,tR,jw,hd,d⟩;obtain⟨l,q,rfl,el,_⟩:=tR;obtain⟨m,r,rfl,br,_⟩:=jw;have g:=i l _ q m _ r w1 el br;have dH:=zw A.o d;have z:=yh (M.o.trans d (λ_ h=> .inl h));have y:=yh hd;have C:=yh dH;clear u el br hd d i dH;go_wp2_with fail;refine g.mono ?_;rintro e w2 ⟨v,rfl,⟨I,J,rfl,fM,_,_⟩,c⟩;have cI:=y.o.aw (aa.ah (λ_=>False) c) (λ_ _ h=>h);have ii:=yh (z.o.trans (aa.ah (λ_=>False) c) (λ_ h=>h.elim));have dH:=(c.block _ (aq C.o)).trans C.o;have JK:=aM dH;have Bo:=bG dH;have t:=vp cI ((f:Int)+(K:Int)) I _ J L fM (by simpa [DS.read] using (show S.puts.length+1<=4000000000000 by omega));rw [b] at t;have k:=yh dH;clear g c cI fM dH;rw [b];go_wp2_with fail;refine fQ t λw3 a aZ=>?_;have lW:=yh (ii.o.trans aZ (λ_ h=> .inl h));rw [<-O.o] at a⊢;have Z:=DC a (by have:=jk S.read.read s ((f:Int)+(K:Int)) 512 L;rw [<-O.o] at this;simp only [DS.read] at this;omega);have dH:=(aZ.block _ (aq k.o) (λh=>by have:=A.o _ h;omega)).trans k.o;have JK:=aM dH;have ah7:=yh aZ;have H:Y.1=0:=(by simpa using G);rw [H];clear a aZ t dH G H;go_wp2_with fail;refine fQ Z λw4 D dW=>?_;obtain⟨Mw,N⟩:=bV (lW.o.trans dW (λj h=>h.elim .inl (λh=> .inr (k9 ii.o.size h.1)))) (zy A.o ii.o ah7.o dW.size D);clear D dW Z;go_wp2;go_ret;exact⟨rfl,N.o,Mw.o⟩
def Ri (i A X:Nat) (c:A<2 ^ i) (h:A+2 ^ i*X<9223372036854775808):
  bits .or .i64 (A:Int) ((2 ^ i*X:Nat):Int)=((A+2 ^ i*X:Nat):Int):=by
 have q:∀z:Nat,z<18446744073709551616->(BitVec.ofInt 64 (z:Int)).toNat=z:=by
  intro z d;rw [BitVec.toNat_ofInt];omega
 have a:A<18446744073709551616:=by omega
 have b:2 ^ i*X<18446744073709551616:=by omega
 show IntKind.i64.wrap ((BitVec.ofInt 64 (A:Int) |||BitVec.ofInt 64 ((2 ^ i*X:Nat):Int)).toNat:Int)=_;rw [BitVec.toNat_or,q A a,q _ b,Nat.or_comm,<-Nat.two_pow_add_eq_or_of_lt c X,Nat.add_comm];generalize A+2 ^ i*X=Z at*;rw [IntKind.wrap_i64];omega
def CS (a:Bytes l) (h:l.length<=4):le l<9223372036854775808:=by
 have:=lE a;exact iL this (by have:=Nat.pow_le_pow_right (show 0<2 by omega) (show 8*l.length<=32 by omega);omega)
def tY (g o k c N:Nat) (T:TypeId) (l:List Int) (w:World) (d:kh w T g l) (q:k<=8) (r:o+k<=l.length):
  Calls prog 242 #[.slice (some (aD g o)) k c,iV (N:Int)] w λe w'=>e= .returned (.tuple #[])/\kh w' T g (put l o (bD k N))/\aa (λj=>j=g) w w'/\w'.heap.size=w.heap.size:=by
 go_in;go_wp2;go_loopw [7] (λi wr=>∃j:Nat,j<=k/\i=iV j/\kh wr T g (put l o (bD j N))/\aa (λj=>j=g) w wr/\wr.heap.size=w.heap.size) (λi _=>k-(intOf i).toNat);case atStart=>exact⟨0,dL _,rfl,by rw [bD,D2];exact d,aa.refl _ _,rfl⟩
 case round=>
  obtain⟨j,n,rfl,aV,rT,eM⟩:=hrel;by_cases bq:j<k
  .have cC:(j:Int)<(k:Int):=(by omega);have a:=aK j N;have pF:=Mm (l:=l) (xs:=bD j N) (o:=o) (by omega);have f:=aV.cell (i:=o+j) (by omega);have m:=aV.frozen (o+j);have pp:=aV.set (o+j) ((N / 2 ^ (8*j)%256:Nat):Int);have e:=Ge (l:=l) (xs:=bD j N) (o:=o) (by omega) ((N / 2 ^ (8*j)%256:Nat):Int);rw [a] at e;rw [e,<-i9] at pp;have b:=(rT.trans (aa.setCell (F:=λj=>j=g) (p:=⟨g,o+j,none⟩) wr rfl (.int .u8 ((N / 2 ^ (8*j)%256:Nat):Int))) (λ_ h=> .inl h));go_wp2;go_roundw;case rel=>exact⟨j+1,by omega,by go_num,pp,b,by simpa [World.setCell] using eM⟩
   case measure=>simp [intOf];omega
  .have cC:¬(j:Int)<(k:Int):=(by omega);obtain rfl:j=k:=(by omega);go_wp2
   go_end0
   exact⟨rfl,aV,rT,eM⟩
def oH (b o n c:Nat) (l:List Int) (w:World) (d:Bytes l) (u:l.length=n) (v:n<=4) (g:∀i,i<n->w.cell? ⟨b,o+i,none⟩=some (.int .u8 (l.getD i 0))):
  Calls prog 226 #[.slice (some (aD b o)) n c] w λe w'=>e= .returned (iV ((le l:Nat):Int))/\w'=w:=by
 have m:=yh g;clear g;go_in;go_wp2;go_loopw [3,8] (λr i wr=>∃j:Nat,j<=n/\i=iV j/\wr=w/\r=iV ((le (l.take j):Nat):Int)) (λ_ i _=>n-(intOf i).toNat);case atStart=>exact⟨0,dL _,rfl,rfl,by simp [le]⟩
 case round=>
  obtain⟨j,t,rfl,rfl,rfl⟩:=hrel;by_cases bq:j<n
  .have cC:(j:Int)<(n:Int):=(by omega);have q:=m.o j bq;obtain⟨x,s,jL⟩:∃x:Nat,l.getD j 0=(x:Int)/\x<256:=by
    have:=d.getD j;exact⟨(l.getD j 0).toNat,by omega,by omega⟩
   have iB:=lK (l:=l) (k:=j) (by omega);have f:le (l.take j)<2 ^ (8*j):=by
    have:=lE (d.take j);have e:(l.take j).length=j:=(by simp;omega);rwa [e] at this
   have a:le (l.take (j+1))<9223372036854775808:=CS (d.take _) (by simp;omega);rw [s] at q iB;simp only [mx] at iB;rw [iB] at a;have Nr:=Ri (8*j) _ x f a;rw [<-iB] at Nr;have Zr:((x:Int)*2 ^ (8*j))=((2 ^ (8*j)*x:Nat):Int):=(by rw [Int.natCast_mul,Int.natCast_pow,Int.mul_comm];rfl);have xB:((2 ^ (8*j)*x:Nat):Int)<9223372036854775808:=(by omega);generalize 2 ^ (8*j)*x=Y at*;generalize le (l.take j)=A at*;clear f a iB;go_wp2;go_roundw;case rel=>exact⟨j+1,by omega,by go_num,trivial,by rw [<-(yh Nr).out]⟩
   case measure=>simp [intOf];omega
  .have cC:¬(j:Int)<(n:Int):=(by omega);have p:l.take j=l:=nC (by omega);rw [p] at*;go_wp2;go_ret;exact⟨rfl,rfl⟩
structure PC where
 e:Nat
 p:Nat
 i:Nat
 c:Nat
 d:List Int
def PC.zero:PC:=⟨0,0,0,0, []⟩
def km (b:List Int):PC:=⟨le (b.take 4),le ((b.drop 4).take 4),le ((b.drop 8).take 2),le ((b.drop 10).take 2),b.drop 12⟩
def dr (l:List Int):PC:=if (aX l).2≠0\/(aX l).1.length<12 then PC.zero else km (aX l).1
def PC.ok (q:PC) (E P i c:Nat):Prop:=q.e=E/\q.p=P/\q.i=i/\q.c=c/\0<q.d.length/\(i+1≠c->q.d.length=492)
def lu (R:Nat->PC) (P k:Nat):List Int:=(List.range k).flatMap (λi=>(R (P+i)).d)
def mF (R:Nat->PC) (P:Nat):lu R P 0= []:=rfl
def iD (R:Nat->PC) (P k:Nat):lu R P (k+1)=lu R P k ++ (R (P+k)).d:=by simp [lu,List.range_succ]
def Rec (R:Nat->PC) (E P c:Nat) (d:List Int):Prop:=1<=c/\c<=17/\(∀i,i<c->(R (P+i)).ok E (P+i) i c)/\d=lu R P c
def Rec.count {R:Nat->PC} (h:Rec R E P c d):(R P).c=c:=by
 have:=(h.2.2.1 0 h.1).2.2.2.1;simpa using this
def Rec.unique {R:Nat->PC} {c':Nat} {a:List Int} (h:Rec R E P c d) (b:Rec R E P c' a):c=c'/\d=a:=by
 have e:=h.count.symm.trans b.count;subst e;exact⟨rfl,h.2.2.2.trans b.2.2.2.symm⟩
def dF (R:Nat->PC) (E:Nat):Nat->List (List Int)->Nat->Prop
 |P, [],h=>h=P
 |P,d :: ds,h=>∃c,Rec R E P c d/\dF R E (P+c) ds h
def dF.nil (R:Nat->PC) (E P:Nat):dF R E P [] P:=rfl
def dF.snoc {R:Nat->PC} {E:Nat}:∀{rs:List (List Int)} {P h c:Nat} {d:List Int},dF R E P rs h->Rec R E h c d->dF R E P (rs ++ [d]) (h+c)
 | [],P,h,c,d,a,hr=>by
  have a:h=P:=a;subst a;exact⟨c,hr,rfl⟩
 |x :: xs,P,h,c,d,⟨k,hk,a⟩,hr=>⟨k,hk,dF.snoc a hr⟩
def dF.unique {R:Nat->PC} {E:Nat}:∀{rs Bw:List (List Int)} {P h e:Nat},dF R E P rs h->(∀c d,¬Rec R E h c d)->dF R E P Bw e->(∀c d,¬Rec R E e c d)->rs=Bw/\h=e
 | [], [],P,h,e,a,_,b,_=>⟨rfl,(show h=P from a).trans (show e=P from b).symm⟩
 | [],x :: xs,P,h,e,a,hn,⟨k,hk,_⟩,_=>by
  have a:h=P:=a;subst a;exact absurd hk (hn _ _)
 |x :: xs, [],P,h,e,⟨k,hk,_⟩,_,b,hn=>by
  have b:e=P:=b;subst b;exact absurd hk (hn _ _)
 |x :: xs,y :: ys,P,h,e,⟨k,hk,ht⟩,hn,⟨k',BJ,ht'⟩,BN=>by
  obtain⟨rfl,rfl⟩:=hk.unique BJ;obtain⟨rfl,rfl⟩:=dF.unique ht hn ht' BN;exact⟨rfl,rfl⟩
def dF.le {R:Nat->PC} {E:Nat}:∀{rs:List (List Int)} {P h:Nat},dF R E P rs h->P<=h
 | [],P,h,a=>Nat.le_of_eq (show h=P from a).symm
 |x :: xs,P,h,⟨k,hk,ht⟩=>by have:=dF.le ht;omega
def Rec.at {R:Nat->PC} (h:Rec R E P c d) {q:Nat} (a:P<=q) (b:q<P+c):(R q).p=q:=by
 have:=(h.2.2.1 (q-P) (by omega)).2.1;rwa [show P+(q-P)=q by omega] at this
def dF.at {R:Nat->PC} {E:Nat}:∀{rs:List (List Int)} {P h:Nat},dF R E P rs h->∀q,P<=q->q<h->(R q).p=q
 | [],P,h,a,q,h1,h2=>by have a:h=P:=a;omega
 |x :: xs,P,h,⟨k,hk,ht⟩,q,h1,h2=>by
  by_cases b:q<P+k
  .exact hk.at h1 b
  .exact dF.at ht q (by omega) h2
def dF.round {R:Nat->PC} (f:1<=n) (e:∀q,R (q+n)=R q) (d:dF R E P rs h):h<=P+n:=by
 rcases Nat.lt_or_ge (P+n) h with c|c
 .have a:=d.at P (bR _) (by omega);have b:=d.at (P+n) (by omega) c;rw [e] at b;omega
 .exact c
def dF.length {R:Nat->PC} {E:Nat}:∀{rs:List (List Int)} {P h:Nat},dF R E P rs h->P+rs.length<=h
 | [],P,h,a=>Nat.le_of_eq (show h=P from a).symm
 |x :: xs,P,h,⟨k,hk,ht⟩=>by have:=dF.length ht;have:=hk.1;simp only [List.length_cons];omega
structure Scan (R:Nat->PC) (E T:Nat) (rs:List (List Int)) (h j c:Nat) (d:List Int):Prop where
 t:dF R E T rs h
 p:∀i,i<j->(R (h+i)).ok E (h+i) i c
 c:0<j->1<=c/\c<=17/\j<c
 d:d=lu R h j
def Scan.start (R:Nat->PC) (E T:Nat) (c:Nat):Scan R E T [] T 0 c []:=⟨rfl,λi a=>by omega,λh=>by omega,rfl⟩
def nM (R:Nat->PC) (h j c:Nat):Nat:=if j=0 then (R h).c else c
def Scan.grow {R:Nat->PC} {T:Nat} (s:Scan R E T rs h j c d) (f:(R (h+j)).ok E (h+j) j (nM R h j c)) (a:1<=nM R h j c) (b:nM R h j c<=17) (l:j+1≠nM R h j c) (k:j<nM R h j c):
  Scan R E T rs h (j+1) (nM R h j c) (d ++ (R (h+j)).d):=by
 refine⟨s.t,λi g=>?_,λ_=>⟨a,b,by omega⟩,by rw [s.d,iD]⟩;by_cases e:i=j
 .subst e;exact f
 .have XJ:j≠0:=by omega
  have:=s.p i (by omega);rwa [nM,aB XJ]
def Scan.full {R:Nat->PC} {T:Nat} (s:Scan R E T rs h j c d) (f:(R (h+j)).ok E (h+j) j (nM R h j c)) (k:nM R h j c<=17) (a:j+1=nM R h j c) (c':Nat):
  Scan R E T (rs ++ [d ++ (R (h+j)).d]) (h+j+1) 0 c' []:=by
 refine⟨?_,λi b=>by omega,λh=>by omega,rfl⟩;have g:Rec R E h (j+1) (d ++ (R (h+j)).d):=by
  refine⟨by omega,by omega,λi b=>?_,by rw [s.d,iD]⟩;by_cases e:i=j
  .subst e;rw [a];exact f
  .have:=s.p i (by omega);have XJ:j≠0:=(by omega);rw [a,nM,aB XJ];exact this
 exact s.t.snoc g
def Scan.ends {R:Nat->PC} {T:Nat} (s:Scan R E T rs h j c d) (b:¬((R (h+j)).ok E (h+j) j (nM R h j c)/\1<=nM R h j c/\nM R h j c<=17)):∀c d,¬Rec R E h c d:=by
 intro k x a;by_cases e:j=0
 .subst e;refine b ?_;rw [nM,aG rfl,a.count];exact⟨a.2.2.1 0 a.1,a.1,a.2.1⟩
 .have g:=s.c (by omega);have f:k=c:=by rw [<-a.count];simpa using (s.p 0 (by omega)).2.2.2.1
  subst f;refine b ?_;rw [nM,aB e];exact⟨a.2.2.1 j g.2.2,a.1,a.2.1⟩
def Scan.at {R:Nat->PC} {T:Nat} (s:Scan R E T rs h j c d) (q:Nat) (a:T<=q) (e:q<h+j):(R q).p=q:=by
 by_cases b:q<h
 .exact s.t.at q a b
 .have:=(s.p (q-h) (by omega)).2.1;rwa [show h+(q-h)=q by omega] at this
def Scan.round {R:Nat->PC} {T:Nat} (g:1<=n) (b:∀q,R (q+n)=R q) (s:Scan R E T rs h j c d) (e:h+j=T+n):∀c d,¬Rec R E h c d:=by
 refine s.ends (λf=>?_);have a:=f.1.2.1;rw [e,b] at a;have:=s.at T (bR _) (by omega);omega
def gQ (R:Nat->PC):Nat->Nat
 |0=>0
 |k+1=>if (R k).e<=1073741824 then max (gQ R k) (R k).e else gQ R k
def Ec (R:Nat->PC):∀k,gQ R k<=1073741824
 |0=>by simp [gQ]
 |k+1=>by
  have:=Ec R k;unfold gQ;split <;> omega
def q9 (a:Bytes l) (h:l.length<=k):le l<2 ^ (8*k):=iL (lE a) (Nat.pow_le_pow_right (by omega) (by omega))
def Mx (a:Bytes l) (h:l.length<=2):le l<65536:=q9 a (k:=2) h
def My (a:Bytes l) (h:l.length<=4):le l<4294967296:=q9 a (k:=4) h
def p7 (a:Bytes l):Bytes (aX l).1:=by
 unfold aX;split
 .exact Bytes.nil
 .split
  .exact Bytes.nil
  .rename_i b h;rw [(oA h).2.2.2];exact(a.drop 7).take _
def Ed (l:List Int):(aX l).1.length<=504:=by
 unfold aX;split
 .simp
 .split
  .simp
  .rename_i a b h;exact qU h (by omega)
def kn (b:Bytes l):(dr l).e<4294967296/\(dr l).p<4294967296/\(dr l).i<65536/\(dr l).c<65536/\(dr l).d.length<=492/\Bytes (dr l).d:=by
 have a:=p7 b;have f:=Ed l;unfold dr;split
 .exact⟨by decide,by decide,by decide,by decide,by decide,Bytes.nil⟩
 .exact⟨My (a.take _) (by simp;omega),My ((a.drop _).take _) (by simp;omega),Mx ((a.drop _).take _) (by simp;omega),Mx ((a.drop _).take _) (by simp;omega),by simp [km];omega,a.drop _⟩
section
def DS.Ee (S:DS) (r:Int):DS:={S with reads:=r}
def ax (w:World) (F:Nat->Prop) (p s:Nat) (S:DS):Prop:=∃r,aQ w F p s (S.Ee r)
section
variable {w w':World} {F G:Nat->Prop} {p s:Nat} {S:DS}
def ax.ok (h:ax w F p s S):S.Ok s:=by
 obtain⟨r,h⟩:=h;exact⟨h.ok.len,h.ok.lo,h.ok.hi,h.ok.puts,h.ok.fuse⟩
def ax.lt (h:ax w F p s S):∀k,F k->k<w.heap.size:=by obtain⟨r,h⟩:=h;exact h.lt
def ax.aw (h:ax w F p s S) (k:aa G w w') (hd:∀k,F k->¬G k):ax w' F p s S:=by obtain⟨r,h⟩:=h;exact⟨r,h.aw k hd⟩
def ax.later (h:ax w F p s S) (a:bW w w'):ax w' F p s S:=h.aw (aa.ah (λ_=>False) a) (λ_ _ h=>h)
def Rj (S:DS) (r:Int) (s:Nat) (x:Int) (n:Nat) (l:List Int):(S.Ee r).wr s x n l=((S.wr s x n l).1,(S.wr s x n l).2.Ee r):=by
 unfold DS.wr;show (if S.fuse=0 then _ else _)=_;split
 .rfl
 .split
  .rfl
  .split <;> rfl
def Rk (S:DS) (r:Int) (s:Nat):(S.Ee r).fl s=((S.fl s).1,(S.fl s).2.Ee r):=by
 unfold DS.fl;show (if S.fuse=0 then _ else _)=_;split <;> rfl
def VK (S:DS) (r:Int) (k:Nat):(S.Ee r).now k=S.now k:=rfl
def VL (S:DS) (r x:Int):(S.Ee r).lay x=(S.lay x).Ee r:=by
 unfold DS.lay;show (if S.fuse=0 then _ else _)=_;split <;> rfl
def p8 (h:ax w F p s S):Calls prog 47 #[pQ p] w λe w'=>e= .returned (iV s)/\w'=w:=by
 obtain⟨r,h⟩:=h;exact yN h
def zz (h:ax w F p s S):Calls prog 35 #[pQ p] w λe w'=>e= .returned (.bool (S.fuse == 0))/\w'=w:=by
 obtain⟨r,h⟩:=h;exact ix (S:=S.Ee r) h
def wN (h:ax w F p s S):Calls prog 22 #[pQ p] w λe w'=>e= .returned (iV S.life)/\w'=w:=by
 obtain⟨r,h⟩:=h;exact Vi (S:=S.Ee r) h
def oI (h:ax w F p s S) (x:Int) (a:S.fuse=0):Calls prog 39 #[pQ p,iV x] w λe w'=>e= .returned (.tuple #[.slice none 0 0,iV 3])/\w'=w:=by
 obtain⟨r,h⟩:=h;exact Ct h x a
def Kd (h:ax w F p s S):Calls prog 33 #[pQ p] w λe w'=>∃g c,e= .returned (.slice (some (aD g 0)) (s*512) c)/\w.heap.size<=g/\ay w' 5 g c (bs S.im)/\bW w w':=by
 obtain⟨r,h⟩:=h;exact Na p s F (S.Ee r) w h
def dg (S:DS) (s f:Nat) (num:Int):Int×DS:=
 if S.fuse=0 then (3,S) else
 if (aP (S.now f) (S.now (f+1)) num []).2.2≠0 then (((aP (S.now f) (S.now (f+1)) num []).2.2:Int),S) else
 if (S.wr s ((f:Int)+((aP (S.now f) (S.now (f+1)) num []).1:Int)) 512 (aP (S.now f) (S.now (f+1)) num []).2.1).1≠0 then S.wr s ((f:Int)+((aP (S.now f) (S.now (f+1)) num []).1:Int)) 512 (aP (S.now f) (S.now (f+1)) num []).2.1
 else (S.wr s ((f:Int)+((aP (S.now f) (S.now (f+1)) num []).1:Int)) 512 (aP (S.now f) (S.now (f+1)) num []).2.1).2.fl s
def tZ (h:ax w F p s S) (f n:Int):Calls prog 103 #[kJ p f n] w λe w'=>e= .returned (iV (cy S s f n))/\bW w w':=by
 have a:=h.ok.hi;obtain⟨r,h⟩:=h;exact Gd h f n a
end
end
section
structure LG where
 f:Nat
 n:Nat
 life:Int
 begun:Bool
 ep:Nat
 tail:Nat
 head:Nat
 top:Nat
abbrev Jj (p:Nat) (L:LG):Array Value:= #[pQ p,iV (L.f:Int),iV (L.n:Int),iV L.life, .bool L.begun,iV (L.ep:Int),iV (L.tail:Int),iV (L.head:Int),iV (L.top:Int)]
def cY (w:World) (l p:Nat) (L:LG):Prop:=w.heap[l]? =some (.cells (Jj p L) 149 (0,0))
def cY.lt {w:World} {l p:Nat} {L:LG} (h:cY w l p L):l<w.heap.size:=aq h
def cY.aw {w:World} {l p:Nat} {L:LG} (h:cY w l p L) (k:aa G w w') (a:¬G l):cY w' l p L:=(k.block l h.lt a).trans h
section
variable {w:World} {l p:Nat} {L:LG}
def cY.c0 (h:cY w l p L):w.cell? (aD l 0)=some (pQ p):=aM h
def cY.c1 (h:cY w l p L):w.cell? (aD l 1)=some (iV (L.f:Int)):=bG h
def cY.c2 (h:cY w l p L):w.cell? (aD l 2)=some (iV (L.n:Int)):=bM h
def cY.c3 (h:cY w l p L):w.cell? (aD l 3)=some (iV L.life):=fU h
def cY.c4 (h:cY w l p L):w.cell? (aD l 4)=some (.bool L.begun):=gH h
def cY.c5 (h:cY w l p L):w.cell? (aD l 5)=some (iV (L.ep:Int)):=sv h
def cY.c6 (h:cY w l p L):w.cell? (aD l 6)=some (iV (L.tail:Int)):=xz h
def cY.c7 (h:cY w l p L):w.cell? (aD l 7)=some (iV (L.head:Int)):=rH h
def cY.c8 (h:cY w l p L):w.cell? (aD l 8)=some (iV (L.top:Int)):=DG h
def cY.fz (h:cY w l p L) (j:Nat):w.frozen? (aD l j)=false:=ae h j
end
structure LG.Ok (L:LG) (s:Nat):Prop where
 s:L.f+2+L.n<=s
 n1:18<=L.n
 n2:L.n<=256
 ep:L.ep<=1073741824
 top:L.top<1073741824
 th:L.tail<=L.head
 hn:L.head<=L.tail+L.n
 hi:L.head<=1073742080
 hb:L.begun=true->L.head<=1073741824
def LG.dead (L:LG) (S:DS):Bool:=S.fuse == 0 || S.life != L.life
def LG.bm (L:LG) (S:DS):Int:=if L.dead S=true then 3 else if L.begun=true then 0 else 4
section
variable {w:World} {F:Nat->Prop} {p s l:Nat} {S:DS} {L:LG}
def cY.later {w:World} {l p:Nat} {L:LG} (h:cY w l p L) (a:bW w w'):cY w' l p L:=(a.block l h.lt).trans h
def ub (h:ax w F p s S) (b:cY w l p L):
  Calls prog 113 #[pQ l] w λe w'=>e= .returned (.bool (L.dead S))/\bW w w':=by
 have a:=λn=>zz (h.later (below_drewN (bi w.heap.size w) n));have c:=λn=>wN (h.later (below_drewN (bi w.heap.size w) n));have d:=b.c0;have f:=b.c3;unfold LG.dead;go_in;by_cases q:S.fuse=0
 .rw [show (S.fuse == 0)=true by simp [q]] at a⊢;go_wp2_with fail;go_quiet ((go_at_call 35;exact Calls.quiet_of_same (a _)));go_wp2;go_ret;exact⟨rfl,below_drewN (bi _ _) _⟩
 .rw [show (S.fuse == 0)=false by simp [q]] at a⊢;go_wp2_with fail;go_quiet (first|(go_at_call 35;exact Calls.quiet_of_same (a _))|(go_at_call 22;exact Calls.quiet_of_same (c _)));go_wp2;go_ret;exact⟨rfl,below_drewN (bi _ _) _⟩
def jx (h:ax w F p s S) (c:cY w l p L):
  Calls prog 160 #[pQ l] w λe w'=>e= .returned (iV (L.bm S))/\bW w w':=by
 have a:=ub h c;unfold LG.bm;go_in;cases hd:L.dead S
 .rw [hd] at a;cases d:L.begun
  .rw [aB (by decide),aB (by decide)];go_wp2_with fail;refine bJ a λw' eI=>?_;have b:=(c.later eI).c4;rw [d] at b;go_wp2;go_ret;exact⟨rfl,eI⟩
  .rw [aB (by decide),aG rfl];go_wp2_with fail;refine bJ a λw' eI=>?_;have b:=(c.later eI).c4;rw [d] at b;go_wp2;go_ret;exact⟨rfl,eI⟩
 .rw [hd] at a;rw [aG rfl];go_wp2_with fail;refine bJ a λw' eI=>?_;go_wp2;go_ret;exact⟨rfl,eI⟩
def zB (b:cY w l p L) (a:L.Ok s):
  Calls prog 161 #[pQ l] w λe w'=>e= .returned (iV ((L.n:Int)-((L.head:Int)-(L.tail:Int))))/\bW w w':=by
 obtain⟨g,i,j,c,d,f⟩:=jH b.c2 b.c6 b.c7 a.n2 a.th a.hn;go_in;go_wp2_with fail;go_quiet (fail);go_wp2;go_ret;exact⟨rfl,below_drewN (bi _ _) _⟩
def jf (x:Nat) (w:World) (a:x<=140737488355328):Calls prog 214 #[iV (x:Int)] w λe w'=>e= .returned (iV (((x+491) / 492:Nat):Int))/\w'=w:=by
 have h:((x:Int)+492-1) / 492=(((x+491) / 492:Nat):Int):=by omega
 go_in;go_wp2;go_ret;rw [h];exact⟨rfl,rfl⟩
def LG.room (L:LG) (S:DS):Int×Int:=if L.bm S≠0 then (0,L.bm S) else ((L.n:Int)-((L.head:Int)-(L.tail:Int)),0)
def Gu (h:ax w F p s S) (f:cY w l p L) (g:L.Ok s):
  Calls prog 114 #[pQ l] w λe w'=>e= .returned (.tuple #[iV (L.room S).1,iV (L.room S).2])/\bW w w':=by
 have c:=jx h f;unfold LG.room;generalize L.bm S=U at*;go_in;by_cases q:U=0
 .subst q;rw [aB (by decide)];go_wp2_with fail;refine bJ c λw1 a=>?_;have b:=a;go_wp2_with fail;refine(zB (f.later a) g).mono ?_;rintro e i ⟨rfl,a⟩;go_wp2;go_ret2;exact⟨rfl,b.trans (a.mono b.size)⟩
 .rw [aG q];have d:(U == 0)=false:=by rw [fy];exact q
  go_wp2_with fail;refine bJ c λw1 a=>?_;go_wp2;go_ret2;exact⟨rfl,a⟩
def LG.sync (L:LG) (S:DS) (s:Nat):Int×DS:=if L.bm S≠0 then (L.bm S,S) else S.fl s
end
end
def cB (S:DS) (g:Nat->DS->Int×DS):Nat->Int×DS
 |0=>(0,S)
 |k+1=>if (cB S g k).1≠0 then cB S g k else g k (cB S g k).2
def gD {S:DS} {g:Nat->DS->Int×DS} {k:Nat} (h:(cB S g k).1≠0):∀m,k<=m->cB S g m=cB S g k
 |0,hm=>by rw [show k=0 by omega]
 |m+1,hm=>by
  by_cases e:k=m+1
  .rw [e]
  .have:=gD h m (by omega);show (if (cB S g m).1≠0 then cB S g m else g m (cB S g m).2)=_;rw [this,aG h]
def ju {g:Nat->DS->Int×DS} (h:(cB S g k).1=0):cB S g (k+1)=g k (cB S g k).2:=by
 rw [cB,aB (by omega)]
def oJ {S:DS} {g:Nat->DS->Int×DS} (a:∀k T,(g k T).2.puts.length<=T.puts.length+1):∀k,(cB S g k).2.puts.length<=S.puts.length+k
 |0=>bR _
 |k+1=>by
  have:=oJ a k (S:=S);have:=a k (cB S g k).2;unfold cB;split <;> omega
def bF (S:DS) (s f k:Nat):Int×DS:=cB S (λj T=>T.wr s ((f+j:Nat):Int) 512 (zs 512)) k
def cO (S:DS) (s f n:Nat):Int×DS:=if (bF S s f (n+2)).1≠0 then bF S s f (n+2) else (bF S s f (n+2)).2.fl s
def p9 (S:DS) (s f k:Nat):(bF S s f k).2.puts.length<=S.puts.length+k:=oJ (λ_ _=>jk _ _ _ _ _) k
def vy (b:w.heap.size<=w1.heap.size) (c:w1.heap.size<=w2.heap.size):∀k,more (more F w w1) w1 w2 k->more F w w2 k:=λk a=>by
 rcases a with (a|a)|a
 .exact .inl a
 .exact .inr ⟨a.1,by omega⟩
 .exact .inr ⟨by omega,a.2⟩
def cK (b:∀k,F k->k<w.heap.size) (c:w.heap.size<=w2.heap.size):∀k,more F w w2 k->k<w2.heap.size:=λk a=>by
 rcases a with a|a
 .have:=b k a;omega
 .exact a.2
def DS.fN (S:DS):Prop:=Bytes S.im/\∀q∈S.puts,Bytes q.2
def zC {im:List Int} (h:Bytes im) (k:Nat):Bytes (bS im k):=(h.drop _).take _
def Ke (h:S.fN) (k j:Nat):Bytes ((au S.puts k).getD j []):=by
 rcases Nat.lt_or_ge j (au S.puts k).length with a|a
 .rw [List.getD,qQ a,Option.getD_some];have b:=List.getElem_mem a;unfold au at b;obtain⟨q,c,e⟩:=List.mem_map.1 b;have:=h.2 q (List.mem_filter.1 c).1;unfold au;rw [<-e];exact this
 .rw [List.getD,List.getElem?_eq_none a];exact Bytes.nil
def sH (h:S.fN) (k j:Nat):Bytes (S.gM k j):=by
 unfold DS.gM;split
 .exact zC h.1 k
 .exact Ke h k _
def DS.fN.now (h:S.fN) (k:Nat):Bytes (S.now k):=sH h k _
def zD {f:Nat->List Int} (h:∀k,Bytes (f k)):Bytes (pI s f):=by
 intro x b;obtain⟨k,_,a⟩:=List.mem_flatMap.1 b;exact h k x a
def DS.fN.wr (h:S.fN) (s:Nat) (x:Int) (n:Nat) (b:Bytes l):(S.wr s x n l).2.fN:=by
 unfold DS.wr;split
 .exact h
 .split
  .exact h
  .split
   .exact h
   .refine⟨h.1,λq a=>?_⟩;rcases List.mem_append.1 a with a|a
    .exact h.2 q a
    .rw [List.mem_singleton.1 a];exact b
def DS.fN.fl (h:S.fN) (s:Nat):(S.fl s).2.fN:=by
 unfold DS.fl;split
 .exact h
 .exact⟨zD h.now,λq a=>by cases a⟩
def DS.fN.take (h:S.fN):S.take.fN:=h
def DS.fN.lay (h:S.fN) (x:Int):(S.lay x).fN:=by
 unfold DS.lay;split
 .exact h
 .exact h
def Kf (h:S.fN) (k A B C:Nat):Bytes (jp S k A B C):=by
 unfold jp;exact((sH h k _).take _).append ((sH h k _).drop _)
def DS.fN.iA (h:S.fN) (s:Nat) (l:List P3):(S.iA s l).fN:=by
 refine⟨zD (λk=>?_),λq a=>by cases a⟩;unfold fo;split
 .exact zC h.1 k
 .exact Kf h k _ _ _
def mG {S:DS} {g:Nat->DS->Int×DS} (h:S.fN) (a:∀k T,T.fN->(g k T).2.fN):∀k,(cB S g k).2.fN
 |0=>h
 |k+1=>by
  have:=mG h a k;unfold cB;split
  .exact this
  .exact a k _ this
def Gv (n:Nat):Bytes (zs n):=by unfold zs;exact Bytes.tP n
def DS.fN.Rl (h:S.fN) (s f n:Nat):(cO S s f n).2.fN:=by
 have a:∀k,(bF S s f k).2.fN:=mG h (λk T b=>b.wr s _ _ (Gv _));unfold cO;split
 .exact a _
 .exact(a _).fl s
def Ef {r:List Int} (num:Int) {c:List Int} (hd:Bytes c):Bytes (aP l r num c).2.1:=by
 have d:∀(a b:Int),c.length<=496->Bytes (bh (cG a b) (aS num.toNat ++ c)):=λa b h=>wH ((iQ _).append hd) (by rw [ee,dQ];omega) ⟨by omega,by have:=gw a b;omega⟩;unfold aP;split
 .exact Bytes.nil
 .split
  .exact Bytes.nil
  .split
   .exact Bytes.nil
   .dsimp only
    split
    .exact Bytes.nil
    .split
     .exact d _ _ (by omega)
     .exact d _ _ (by omega)
def DS.fN.dg (h:S.fN) (s f:Nat) (num:Int):(dg S s f num).2.fN:=by
 have a:=h.wr s ((f:Int)+((aP (S.now f) (S.now (f+1)) num []).1:Int)) 512 (Ef (l:=S.now f) (r:=S.now (f+1)) num Bytes.nil);unfold Go.Proofs.YtcpdggdfihjhoaaGreat.dg;split
 .exact h
 .split
  .exact h
  .split
   .exact a
   .exact a.fl s
def wO {old:List Int} (a:Bytes body):Bytes (gy old body).1:=by
 unfold gy;split
 .exact Bytes.nil
 .split
  .exact Bytes.nil
  .exact wH a (by omega) ⟨by omega,by have:=gw (old.getD 0 0) (old.getD 511 0);omega⟩
def sI (S:DS) (s f n:Nat):(cO S s f n).2.puts.length<=S.puts.length+n+3:=by
 have a:=p9 S s f (n+2);have b:=yE (bF S s f (n+2)).2 s;unfold cO;split <;> omega
def cD (S:DS) (s:Nat) (f n:Int):Int×DS:=
 if cy S s f n≠0 then (cy S s f n,S) else
 if (cO S.take s f.toNat n.toNat).1≠0 then cO S.take s f.toNat n.toNat else dg (cO S.take s f.toNat n.toNat).2 s f.toNat 4294967296
def fX {f n:Int} (h:cy S s f n=0):S.fuse≠0/\∃a b:Nat,f=(a:Int)/\n=(b:Int)/\a+2+b<=s/\18<=b/\b<=256:=by
 unfold cy at h;split at h
 .omega
 .rename_i c;split at h
  .omega
  .split at h
   .omega
   .split at h
    .omega
    .exact⟨c,f.toNat,n.toNat,by omega,by omega,by omega,by omega,by omega⟩
def eF {b:Nat} {o:Obj} (h:w.heap[b]? =some o) (a:aa G w w1) (c:¬G b):w1.heap[b]? =some o:=(a.block b (aq h) c).trans h
section
def LG.start (L:LG) (S:DS) (s:Nat):Int×DS×LG:=
 if L.dead S=true then (3,S,L) else if L.begun=true then (5,S,L) else
 if (dg S s L.f (((L.top+1:Nat):Int)*4294967296+((0:Nat):Int))).1≠0 then ((dg S s L.f (((L.top+1:Nat):Int)*4294967296+((0:Nat):Int))).1,(dg S s L.f (((L.top+1:Nat):Int)*4294967296+((0:Nat):Int))).2,L)
 else (0,(dg S s L.f (((L.top+1:Nat):Int)*4294967296+((0:Nat):Int))).2,{L with begun:=true,ep:=L.top+1,tail:=0,head:=0})
def LG.trim (L:LG) (S:DS) (s:Nat):Int×DS×LG:=
 if (L.sync S s).1≠0 then ((L.sync S s).1,(L.sync S s).2,L) else if L.tail=L.head then (0,(L.sync S s).2,L) else
 if (dg (L.sync S s).2 s L.f ((L.ep:Int)*4294967296+(L.head:Int))).1≠0 then ((dg (L.sync S s).2 s L.f ((L.ep:Int)*4294967296+(L.head:Int))).1,(dg (L.sync S s).2 s L.f ((L.ep:Int)*4294967296+(L.head:Int))).2,L)
 else (0,(dg (L.sync S s).2 s L.f ((L.ep:Int)*4294967296+(L.head:Int))).2,{L with tail:=L.head})
def cY.started {w:World} {l p:Nat} {L:LG} (h:cY w l p L) (E:Int) (n:Nat) (e:E=(n:Int)):
  cY ((((w.setCell ⟨l,4,none⟩ (.bool true)).setCell ⟨l,5,none⟩ (.int .i64 E)).setCell ⟨l,6,none⟩ (.int .i64 0)).setCell ⟨l,7,none⟩ (.int .i64 0)) l p {L with begun:=true,ep:=n,tail:=0,head:=0}:=by
 subst e;have a:=heap_setCell_same _ _ 4 _ _ (.bool true) h;have b:=heap_setCell_same _ _ 5 _ _ (iV (n:Int)) a;have c:=heap_setCell_same _ _ 6 _ _ (iV 0) b;have d:=heap_setCell_same _ _ 7 _ _ (iV 0) c;exact d.trans (by simp [Jj])
def cY.trimmed {w:World} {l p:Nat} {L:LG} (h:cY w l p L):cY (w.setCell ⟨l,6,none⟩ (.int .i64 (L.head:Int))) l p {L with tail:=L.head}:=
   (heap_setCell_same _ _ 6 _ _ (iV (L.head:Int)) h).trans (by simp [Jj])
def aL {F:Nat->Prop} (w:World) {l:Nat} (a:F l) (j:Nat) (v:Value):aa F w (w.setCell ⟨l,j,none⟩ v):=aa.setCell (F:=F) w (p:=(aD l j)) a v
section
variable {w:World} {F:Nat->Prop} {p s l:Nat} {S:DS} {L:LG}
end
end
section
def nN (L:LG) (S:DS) (s:Nat):(L.sync S s).2.puts.length<=S.puts.length+1:=by
 unfold LG.sync;split
 .simp
 .exact yE S s
def qd {S:DS} (h:S.fN) (L:LG) (s:Nat):(L.sync S s).2.fN:=by
 unfold LG.sync;split
 .exact h
 .exact h.fl s
def Kg {L:LG} {S:DS} {s:Nat} (h:(L.sync S s).1=0):L.begun=true:=by
 unfold LG.sync at h;split at h
 .rename_i a;exact absurd h a
 .rename_i a;unfold LG.bm at a;split at a
  .omega
  .split at a
   .assumption
   .omega
section
variable {w:World} {F:Nat->Prop} {p s l:Nat} {S:DS} {L:LG}
end
end
abbrev lw (e q i c:Int) (a:Option Addr) (n k:Nat):Value:= .agg #[iV e,iV q,iV i,iV c, .slice a n k]
abbrev eS (e q i c:Int) (a:Option Addr) (n k:Nat):Array Value:= #[iV e,iV q,iV i,iV c, .slice a n k]
def kR (E P i c:Nat) (part:List Int):List Int:=bD 4 E ++ (bD 4 P ++ (bD 2 i ++ (bD 2 c ++ part)))
def Eg (A X:List Int) (m:Nat) (h:X.length<=m):put (A ++ zs m) A.length X=(A ++ X) ++ zs (m-X.length):=by
 unfold put;have e:zs m=zs X.length ++ zs (m-X.length):=by rw [<-l6];congr 1;omega
 have a:A.length+X.length=(A ++ zs X.length).length:=by rw [ee,bH]
 rw [List.take_left,a,e,<-rG A (zs X.length),List.drop_left,rG]
def vz (E P i c:Nat) (l:List Int):(kR E P i c l).length=12+l.length:=by
 simp only [kR,ee,aK];omega
def mH (h:Bytes l):Bytes (kR E P i c l):=(iT _ _).append ((iT _ _).append ((iT _ _).append ((iT _ _).append h)))
def Rm (E P i c:Nat) (l:List Int):kR E P i c l=(((bD 4 E ++ bD 4 P) ++ bD 2 i) ++ bD 2 c) ++ l:=by
 simp only [kR,rG]
def Rn (E P i c:Nat) (a:Option Addr) (n k:Nat) (l:List Int) (w:World) (D:Src w a n l) (hn:n<=492) (tM:a=none->k=0):
  Calls prog 237 #[lw E P i c a n k] w λe w'=>∃v,e= .returned v/\Own w' w.heap.size v (kR E P i c l)/\bW w w':=by
 obtain⟨R,N,gC,dE,em⟩:=info_parts gq;have H:=yh D;have O:=D.1;obtain⟨m,Q⟩:∃m:Nat,m=12+n:=⟨_,rfl⟩;have Z:(4:Int)<=(m:Int):=by omega
 have b8:(8:Int)<=(m:Int):=by omega
 have U:(10:Int)<=(m:Int):=by omega
 have W:(12:Int)<=(m:Int):=by omega
 have n4:¬m=4:=by omega
 have n8:¬m=8:=by omega
 have Y:¬m=10:=by omega
 have y:=yh Q;rw [Rm];obtain⟨A,C⟩:=bP ((((bD 4 E ++ bD 4 P) ++ bD 2 i) ++ bD 2 c));rw [<-C];have S:=yh C;clear D C Q;go_in;go_wp2_with (at_make;refine iW _ rfl _ _ rfl _ 12 m rfl rfl ?c1 ?c2 ?c3 ?_);case c1=>have:=y.o;omega
 case c2=>omega
 case c3=>have:=y.o;omega
 intro w1 aV ar;have dH:w1.heap[w.heap.size]? =some (.cells (eS E P i c a n k) 230 (0,0)):=(ar.block _ (by simp)).trans (heap_alloc_new _ _);have cQ:=yh ((yh (aJ w (.cells (eS E P i c a n k) 230))).out.trans (ar.mono (by simp)));clear ar;obtain⟨p,CT⟩:=bV dH (y.o▸aV:kh w1 5 (w.heap.size+1) (zs (12+n)));clear aV;have X:=aM p.o;have J:put (zs (12+n)) 0 (bD 4 E)=bD 4 E ++ zs (8+n):=by
  have:=Eg ([]:List Int) (bD 4 E) (12+n) (by rw [aK];omega);simp only [aK,List.nil_append,List.length_nil] at this;rw [show 12+n-4=8+n by omega] at this;exact this
 have cu:=λ(r:Nat) (wx:World) (b:kh wx 5 (w.heap.size+1) (zs (12+n)))=>tY (w.heap.size+1) 0 4 r E 5 (zs (12+n)) wx b (by omega) (by simp only [bH];omega);rw [J] at cu;have BW:=yh cu;clear J cu;go_wp2_with fail
 go_region_with ((go_at_call 242;refine(BW.o _ w1.drew CT.o).mono ?_;rintro e F ⟨rfl,f,d,g⟩;have b:=eF (w:=w1.drew) (w1:=F) p.o d (by omega)))
 obtain⟨VM,ii⟩:=bV b f;have dZ:=yh ((ai cQ.o).trans (d.below (B:=w.heap.size) (λj z=>by omega) (ai cQ.o).size));clear X BW b f d g;have c1:=bG VM.o;have K:put (bD 4 E ++ zs (8+n)) 4 (bD 4 P)=(bD 4 E ++ bD 4 P) ++ zs (4+n):=by
  have:=Eg (bD 4 E) (bD 4 P) (8+n) (by rw [aK];omega);simp only [aK] at this;rw [show 8+n-4=4+n by omega] at this;exact this
 have fK:=λ(r:Nat) (wx:World) (b:kh wx 5 (w.heap.size+1) (bD 4 E ++ zs (8+n)))=>tY (w.heap.size+1) 4 4 r P 5 (bD 4 E ++ zs (8+n)) wx b (by omega) (by simp only [ee,aK,bH];omega);rw [K] at fK;have VN:=yh fK;clear K fK;go_wp2_with fail
 go_region_with ((go_at_call 242;refine(VN.o _ F.drew ii.o).mono ?_;rintro e G ⟨rfl,f,d,g⟩;have b:=eF (w:=F.drew) (w1:=G) VM.o d (by omega)))
 obtain⟨VO,lW⟩:=bV b f;have fS:=yh ((ai dZ.o).trans (d.below (B:=w.heap.size) (λj z=>by omega) (ai dZ.o).size));clear c1 VN b f d g;have c2:=bM VO.o;have L:put ((bD 4 E ++ bD 4 P) ++ zs (4+n)) 8 (bD 2 i)=((bD 4 E ++ bD 4 P) ++ bD 2 i) ++ zs (2+n):=by
  have:=Eg (bD 4 E ++ bD 4 P) (bD 2 i) (4+n) (by rw [aK];omega);simp only [ee,aK,Nat.reduceAdd] at this;rw [show 4+n-2=2+n by omega] at this;exact this
 have iq:=λ(r:Nat) (wx:World) (b:kh wx 5 (w.heap.size+1) ((bD 4 E ++ bD 4 P) ++ zs (4+n)))=>tY (w.heap.size+1) 8 2 r i 5 ((bD 4 E ++ bD 4 P) ++ zs (4+n)) wx b (by omega) (by simp only [ee,aK,bH];omega);rw [L] at iq;have s:=yh iq;clear L iq;go_wp2_with fail
 go_region_with ((go_at_call 242;refine(s.o _ G.drew lW.o).mono ?_;rintro e I ⟨rfl,f,d,g⟩;have b:=eF (w:=G.drew) (w1:=I) VO.o d (by omega)))
 obtain⟨X0,Mw⟩:=bV b f;have jZ:=yh ((ai fS.o).trans (d.below (B:=w.heap.size) (λj z=>by omega) (ai fS.o).size));clear c2 s b f d g;have c3:=fU X0.o;have M:put (((bD 4 E ++ bD 4 P) ++ bD 2 i) ++ zs (2+n)) 10 (bD 2 c)=(((bD 4 E ++ bD 4 P) ++ bD 2 i) ++ bD 2 c) ++ zs (0+n):=by
  have:=Eg ((bD 4 E ++ bD 4 P) ++ bD 2 i) (bD 2 c) (2+n) (by rw [aK];omega);simp only [ee,aK,Nat.reduceAdd] at this;rw [show 2+n-2=0+n by omega] at this;exact this
 have jg:=λ(r:Nat) (wx:World) (b:kh wx 5 (w.heap.size+1) (((bD 4 E ++ bD 4 P) ++ bD 2 i) ++ zs (2+n)))=>tY (w.heap.size+1) 10 2 r c 5 (((bD 4 E ++ bD 4 P) ++ bD 2 i) ++ zs (2+n)) wx b (by omega) (by simp only [ee,aK,bH];omega);rw [M] at jg;have t:=yh jg;clear M jg;go_wp2_with fail
 go_region_with ((go_at_call 242;refine(t.o _ I.drew Mw.o).mono ?_;rintro e w5 ⟨rfl,f,d,g⟩;have b:=eF (w:=I.drew) (w1:=w5) X0.o d (by omega)))
 obtain⟨ZG,UI⟩:=bV b f;have jr:=yh ((ai jZ.o).trans (d.below (B:=w.heap.size) (λj z=>by omega) (ai jZ.o).size));clear c3 t b f d g;have c4:=gH ZG.o;have aA:Own w5 w.heap.size (.slice (some ⟨w.heap.size+1,0,none⟩) (((bD 4 E ++ bD 4 P) ++ bD 2 i) ++ bD 2 c).length m) (((bD 4 E ++ bD 4 P) ++ bD 2 i) ++ bD 2 c):=Mt UI.o (by omega) (by simp only [ee,aK,bH];have:=y.o;omega) (by unfold maxLen;have:=y.o;omega);have j8:(((bD 4 E ++ bD 4 P) ++ bD 2 i) ++ bD 2 c).length=12:=by simp only [ee,aK]
 rw [j8] at aA;have be:w5.ownsRow w.heap.size 5 1 (.slice (some ⟨w.heap.size+1,0,none⟩) 12 m) 12 (bs (((bD 4 E ++ bD 4 P) ++ bD 2 i) ++ bD 2 c)):=by
  have:=aA;unfold Own at this;rwa [j8] at this
 have vo:=yh be;have bw:=yh aA;have g:=jr.o.size;rw [<-S.o] at j8 vo bw;clear aA be p VM VO X0 CT ii lW Mw UI cQ dZ fS jZ;cases a with
 |none=>
  have ln:=H.o.2.1 rfl;subst ln;have ws:=yH O;subst ws;have JK:=tM rfl;subst JK;go_wp2_with (at_builtin;refine wpList_append_own_none rfl _ _ 36 rfl w.heap.size 5 R 1 underlying36 N _ 12 (bs A) rfl vo.o rfl ?_);go_ret;exact⟨_,rfl,by first|exact bw.o|(rw [List.append_nil];exact bw.o),jr.o⟩
 |some x=>
  have vw:=yh (λj u (z:(bs l)[j]? =some u)=>show w5.cell? (x.add j)=some u by
   obtain⟨Zt,rfl⟩:=fA z;exact cell_later jr.o (H.o.2.2 _ rfl j (by omega)))
  have D5:(bs l).length=n:=by rw [bs,jF,O]
  go_wp2_with (at_builtin;refine wpList_append_own _ rfl _ _ 36 rfl w.heap.size 5 R (.int .u8 0) 1 1 underlying36 N gC dE em rfl (by decide) _ 12 (bs A) rfl vo.o x n k (bs l) rfl ?n0 vw.out ?n2 ?n3 ?n4 ?n5 ?_);case n0=>omega
  case n2=>exact cF _
  case n3=>unfold maxLen;omega
  case n4=>omega
  case n5=>exact g
  intro v' w6 cN lr _;rw [<-iS] at cN;obtain⟨T,xG⟩:=bV (D1 (m:=A ++ l) cN (by rw [ee,j8];omega) rfl) (jr.o.grown lr g (λq e=>(vo.o.lt q e).1));clear cN lr;go_wp2;go_ret;exact⟨_,rfl,T.o,xG.o⟩
section
def bY (w:World) (F:Nat->Prop) (p s:Nat) (S:DS) (m:Nat):Prop:=∃r,gV w F p s (S.Ee r) m
section
variable {w w':World} {F G:Nat->Prop} {p s m:Nat} {S:DS}
def bY.r (h:bY w F p s S m):ax w F p s S:=by obtain⟨r,h⟩:=h;exact⟨r,h.at⟩
def pf {S:DS} {s:Nat} (a:S.fuse≠0) (b:k<s) (l:List Int):S.wr s (k:Int) 512 l=(0,(S.put k l).wrote.gv):=by
 unfold DS.wr;rw [aB a,aB (by omega),aB (by omega),mx]
end
def j2 (S:DS) (s f n E P i c:Nat) (part:List Int):Int×DS:=
 if S.fuse=0 then (3,S) else S.wr s ((f+2+P%n:Nat):Int) 512 (gy (S.now (f+2+P%n)) (kR E P i c part)).1
def sJ {old:List Int} (b:old.length=512) (a:body.length<=504):(gy old body).2=0/\(gy old body).1.length=512:=by
 unfold gy;rw [aB (by omega),aB (by omega)];exact⟨rfl,fx a⟩
def Src.pg {w w':World} {F:Nat->Prop} (h:Src w a n l) (g:aa F w w') (d:∀y,a=some y->0<n->¬F y.block):Src w' a n l:=
   ⟨h.1,h.2.1,λx c i f=>by
  have h0:=h.2.2 x c i f;have e:(x.add i).block=x.block:=by unfold Addr.add;split <;> rfl
  rw [World.cell?_of_block (w:=w) (g.block _ (World.block_lt_of_cell? _ _ h0) (λb=>by rw [e] at b;exact d x c (by omega) b))];exact h0⟩
def gZ (w:World) (a b:Obj):bW w ((w.alloc a).alloc b):=((bi _ _).alloc (bR _) _).alloc (by simp) _
end
def zE {b o:Nat} (h:Src w (some (aD b o)) n l) (x y:Nat) (c:x+y<=n):∀i,i<y->w.cell? ⟨b,o+x+i,none⟩=some (.int .u8 (((l.drop x).take y).getD i 0)):=by
 intro i a;have:=h.2.2 _ rfl (x+i) (by omega);rw [aN] at this;rw [Nat.add_assoc,this];congr 2;simp [List.getD,a,List.getElem?_drop]
def NP {b o:Nat} (h:Src w (some (aD b o)) n l) (x y:Nat) (a:x+y<=n):Src w (some ⟨b,o+x,none⟩) y ((l.drop x).take y):=
   ⟨by have:=h.1;simp;omega,(λe=>by cases e),λz d i c=>by cases d;rw [aN];exact zE h x y a i c⟩
def Kh (w1:World) (b:Nat) (a c d e f:Value):aa (λk=>k=b) w1 (((((w1.setCell ⟨b,0,none⟩ a).setCell ⟨b,1,none⟩ c).setCell ⟨b,2,none⟩ d).setCell ⟨b,3,none⟩ e).setCell ⟨b,4,none⟩ f):=
   ((((aL (F:=λk=>k=b) w1 rfl 0 a).trans (aL (F:=λk=>k=b) _ rfl 1 c) (λ_ h=> .inl h)).trans (aL (F:=λk=>k=b) _ rfl 2 d) (λ_ h=> .inl h)).trans (aL (F:=λk=>k=b) _ rfl 3 e) (λ_ h=> .inl h)).trans (aL (F:=λk=>k=b) _ rfl 4 f) (λ_ h=> .inl h)
def Ki (w:World) (b:Nat):(World.drew w).heap[b]? =w.heap[b]? :=rfl
def CU {b:Nat} {t:TypeId} {g i j k l:Value} (a c d e f:Value) (h:w.heap[b]? =some (.cells #[g,i,j,k,l] t (0,0))):
    (World.drew (((((w.setCell ⟨b,0,none⟩ a).setCell ⟨b,1,none⟩ c).setCell ⟨b,2,none⟩ d).setCell ⟨b,3,none⟩ e).setCell ⟨b,4,none⟩ f)).heap[b]? =some (.cells #[a,c,d,e,f] t (0,0)):=(Ki _ _).trans (Qi a c d e f h)
def ko:(prog.info? 230).map (·.size)=some 5:=by kernel_rfl
def oK {B:Nat} (h:Below B w w1) {b:Nat} (a:B<=b) (c d e f g:Value):Below B w (((((w1.setCell ⟨b,0,none⟩ c).setCell ⟨b,1,none⟩ d).setCell ⟨b,2,none⟩ e).setCell ⟨b,3,none⟩ f).setCell ⟨b,4,none⟩ g):=
   ((((h.setCell (p:=⟨b,0,none⟩) a _).setCell (p:=⟨b,1,none⟩) a _).setCell (p:=⟨b,2,none⟩) a _).setCell (p:=⟨b,3,none⟩) a _).setCell (p:=⟨b,4,none⟩) a _
def Kj (a:Option Addr) (n c:Nat) (l:List Int) (w:World) (i:Src w a n l) (g:Bytes l) (p:(aX l).2≠0\/(aX l).1.length<12):
  Calls prog 192 #[.slice a n c] w λe w'=>e= .returned (lw 0 0 0 0 none 0 0)/\bW w w':=by
 have d:=CP a n c l (w.alloc (.cells (eS 0 0 0 0 none 0 0) 230)) (i.later (aJ _ _)) g;generalize aX l=Y at*;go_in;go_wp2_with fail;refine d.mono ?_;rintro e w1 ⟨v,rfl,⟨m,o,rfl,el,_,_⟩,ar⟩;have b:=(ar.block _ (by simp)).trans (heap_alloc_new _ _);have cQ:=((aJ w (.cells (eS 0 0 0 0 none 0 0) 230)).trans (ar.mono (by simp)));have f:=λj=>ae b j;obtain⟨r,s,t,u,x⟩:=eQ (aM b) (bG b) (bM b) (fU b) (gH b);by_cases q:Y.2=0
 .have k:(Y.1.length:Int)<12:=by omega
  rw [q] at d;go_wp2;exact bodyPost_ret (results_cell_row (P:=prog) rfl _ _ w.heap.size 230 _ (0,0) _ rfl (Qi _ _ _ _ _ b) underlying230 rfl ko) rfl ⟨rfl,oK cQ (bR _) _ _ _ _ _⟩
 .have k:(((Y.2:Nat):Int) == 0)=false:=by rw [fy];omega
  go_wp2;exact bodyPost_ret (results_cell_row (P:=prog) rfl _ _ w.heap.size 230 _ (0,0) _ rfl (Qi _ _ _ _ _ b) underlying230 rfl ko) rfl ⟨rfl,oK cQ (bR _) _ _ _ _ _⟩
def Kk (a:Option Addr) (n c:Nat) (l:List Int) (w:World) (N:Src w a n l) (I:Bytes l) (M:(aX l).2=0) (qT:12<=(aX l).1.length):
  Calls prog 192 #[.slice a n c] w λe w'=>∃a' k,e= .returned (lw ((km (aX l).1).e:Int) ((km (aX l).1).p:Int) ((km (aX l).1).i:Int) ((km (aX l).1).c:Int) a' (km (aX l).1).d.length k)/\Src w' a' (km (aX l).1).d.length (km (aX l).1).d/\(∀y,a'=some y->w.heap.size<y.block)/\bW w w':=by
 have z:=CP a n c l (w.alloc (.cells (eS 0 0 0 0 none 0 0) 230)) (N.later (aJ _ _)) I;have r:=p7 I;rw [M] at z;generalize (aX l).1=Y at*;have aoD:¬(Y.length:Int)<12:=by omega
 go_in;go_wp2_with fail;refine z.mono ?_;rintro e w1 ⟨v,rfl,⟨U,m,rfl,el,Bo,oo⟩,ar⟩;obtain⟨b,o,rfl⟩:=cZ el (by omega);have Eh:=oo _ rfl;have s:=(ar.block _ (by simp)).trans (heap_alloc_new _ _);have cQ:=((aJ w (.cells (eS 0 0 0 0 none 0 0) 230)).trans (ar.mono (by simp)));have f:=λj=>ae s j;obtain⟨k0,k1,k2,k3,k4⟩:=eQ (aM s) (bG s) (bM s) (fU s) (gH s);have Q:=λwx (g:∀a,World.cell? wx a=w1.cell? a) t=>oH b o 4 t (Y.take 4) wx (r.take 4) (by simp;omega) (by omega) (λi q=>(g _).trans (by have:=zE el 0 4 (by omega) i q;rwa [List.drop_zero,Nat.add_zero] at this));have R:=λwx (g:∀a,World.cell? wx a=w1.cell? a) t=>oH b (o+4) 4 t ((Y.drop 4).take 4) wx ((r.drop 4).take 4) (by simp;omega) (by omega) (λi q=>(g _).trans (zE el 4 4 (by omega) i q));have S:=λwx (g:∀a,World.cell? wx a=w1.cell? a) t=>oH b (o+8) 2 t ((Y.drop 8).take 2) wx ((r.drop 8).take 2) (by simp;omega) (by omega) (λi q=>(g _).trans (zE el 8 2 (by omega) i q));have T:=λwx (g:∀a,World.cell? wx a=w1.cell? a) t=>oH b (o+10) 2 t ((Y.drop 10).take 2) wx ((r.drop 10).take 2) (by simp;omega) (by omega) (λi q=>(g _).trans (zE el 10 2 (by omega) i q));have W:(4:Int)<=(m:Int):=by omega
 have X:(8:Int)<=(m:Int):=by omega
 have J:(10:Int)<=(m:Int):=by omega
 have K:(12:Int)<=(m:Int):=by omega
 have Z:(Y.length:Int)<=(m:Int):=by omega
 have n0:¬m=0:=by omega
 have n4:¬m=4:=by omega
 have n8:¬m=8:=by omega
 have O:¬m=10:=by omega
 obtain⟨C,D,E,F,H⟩:=eQ Q R S T s;by_cases G:m=12
 .have VP:Y.length=12:=by omega
  have ade:((km Y).d= []):=yH (by simp [km,VP]);subst G;rw [VP] at*;go_wp2_with fail;go_region_held3 (λ_=>True) (trivial)
   (first
    |(go_at_call 226;refine(C w1.drew (λ_=>rfl) 12).mono ?_;clear C;rintro e u ⟨rfl,g⟩;subst g)
    |(go_at_call 226;refine(D w1.drew (λ_=>rfl) (8)).mono ?_;clear D;rintro e u ⟨rfl,g⟩;subst g)
    |(go_at_call 226;refine(E w1.drew (λ_=>rfl) (4)).mono ?_;clear E;rintro e u ⟨rfl,g⟩;subst g)
    |(go_at_call 226;refine(F w1.drew (λ_=>rfl) (2)).mono ?_;clear F;rintro e u ⟨rfl,g⟩;subst g))
  go_wp2;refine bodyPost_ret (results_cell_row (P:=prog) rfl _ _ w.heap.size 230 _ (0,0) _ rfl (CU _ _ _ _ _ H) underlying230 rfl ko) rfl ⟨some (aD b o),0,?_,?_,?_,ai (oK cQ (bR _) _ _ _ _ _)⟩
  .rw [ade];rfl
  .rw [ade];exact⟨rfl,λ_=>rfl,λx s i q=>by cases q⟩
  .intro y A;cases A;simp at Eh;show w.heap.size<b;omega
 .go_wp2_with fail;go_region_held3 (λ_=>True) (trivial)
   (first
    |(go_at_call 226;refine(C w1.drew (λ_=>rfl) m).mono ?_;clear C;rintro e u ⟨rfl,g⟩;subst g)
    |(go_at_call 226;refine(D w1.drew (λ_=>rfl) (m-4)).mono ?_;clear D;rintro e u ⟨rfl,g⟩;subst g)
    |(go_at_call 226;refine(E w1.drew (λ_=>rfl) (m-8)).mono ?_;clear E;rintro e u ⟨rfl,g⟩;subst g)
    |(go_at_call 226;refine(F w1.drew (λ_=>rfl) (m-10)).mono ?_;clear F;rintro e u ⟨rfl,g⟩;subst g))
  go_wp2;have qV:(km Y).d.length=Y.length-12:=by simp [km]
  refine bodyPost_ret (results_cell_row (P:=prog) rfl _ _ w.heap.size 230 _ (0,0) _ rfl (CU _ _ _ _ _ H) underlying230 rfl ko) rfl ⟨some ⟨b,o+12,none⟩,m-12,?_,?_,?_,ai (oK cQ (bR _) _ _ _ _ _)⟩
  .rw [qV];rfl
  .rw [qV];have z:=NP el 12 (Y.length-12) (by omega);rw [nC (by simp)] at z;have L:=z.pg (Kh w1 w.heap.size (iV ((le (Y.take 4):Nat):Int)) (iV ((le ((Y.drop 4).take 4):Nat):Int)) (iV ((le ((Y.drop 8).take 2):Nat):Int)) (iV ((le ((Y.drop 10).take 2):Nat):Int)) (.slice (some ⟨b,o+12,none⟩) (Y.length-12) (m-12))) (λy A _ e=>by cases A;simp at Eh e;omega);exact L.later (ai (bi _ _))
  .intro y A;cases A;simp at Eh;show w.heap.size<b;omega
def Gw (a:Option Addr) (n c:Nat) (l:List Int) (w:World) (f:Src w a n l) (b:Bytes l):
  Calls prog 192 #[.slice a n c] w λe w'=>∃a' k,e= .returned (lw ((dr l).e:Int) ((dr l).p:Int) ((dr l).i:Int) ((dr l).c:Int) a' (dr l).d.length k)/\Src w' a' (dr l).d.length (dr l).d/\(∀y,a'=some y->w.heap.size<y.block)/\bW w w':=by
 by_cases q:(aX l).2≠0\/(aX l).1.length<12
 .refine(Kj a n c l w f b q).mono ?_;rintro e w' ⟨rfl,eI⟩;unfold dr;rw [aG q];exact⟨none,0,rfl,⟨rfl,λ_=>rfl,λx g=>by cases g⟩,λy j=>(by cases j),eI⟩
 .refine(Kk a n c l w f b (by omega) (by omega)).mono ?_;rintro e w' h;unfold dr;rw [aB q];exact h
def lM (w:World) (B g i:Nat) (q:PC):Prop:=
 ∃a k,w.cell? ⟨g,i*5,none⟩=some (iV (q.e:Int))/\w.cell? ⟨g,i*5+1,none⟩=some (iV (q.p:Int))/\w.cell? ⟨g,i*5+2,none⟩=some (iV (q.i:Int))/\w.cell? ⟨g,i*5+3,none⟩=some (iV (q.c:Int))/\
  w.cell? ⟨g,i*5+4,none⟩=some (.slice a q.d.length k)/\Src w a q.d.length q.d/\∀y,a=some y->B<=y.block
def lM.aw {B:Nat} {q:PC} (h:lM w B g i q) (c:aa F w w') (t:¬F g) (p:∀k,F k->k<B):lM w' B g i q:=by
 obtain⟨a,k,h0,f,j,l,m,n,b⟩:=h;have e:∀o v,w.cell? (aD g o)=some v->w'.cell? (aD g o)=some v:=λo v d=>by
  have r:=World.block_lt_of_cell? _ _ d;exact(World.cell?_of_block (w:=w) (a:=(aD g o)) (c.block g r t)).trans d
 exact⟨a,k,e _ _ h0,e _ _ f,e _ _ j,e _ _ l,e _ _ m,n.pg c (λy u _ s=>by have:=b y u;have:=p _ s;omega),b⟩
def lM.later {B:Nat} {q:PC} (h:lM w B g i q) (a:bW w w'):lM w' B g i q:=h.aw (aa.ah (λ_=>False) a) (λh=>h) (λ_ h=>h.elim)
def Kl:(prog.info? 230).map (λi=>(i.zero,i.size,i.bytes))=some (some (lw 0 0 0 0 none 0 0),5,56):=by kernel_rfl
def NQ (m:w.heap[g]? =some (.cells cur T (0,0))) (n:j+5<=cur.size) (a b c d e:Value):
  ∃cur',(((((w.setCell ⟨g,j,none⟩ a).setCell ⟨g,j+1,none⟩ b).setCell ⟨g,j+2,none⟩ c).setCell ⟨g,j+3,none⟩ d).setCell ⟨g,j+4,none⟩ e).heap[g]? =some (.cells cur' T (0,0))/\cur'.size=cur.size/\
   cur'[j]? =some a/\cur'[j+1]? =some b/\cur'[j+2]? =some c/\cur'[j+3]? =some d/\cur'[j+4]? =some e/\∀o,o<j\/j+5<=o->cur'[o]? =cur[o]? :=by
 have h0:=heap_setCell_same w g j _ T a m;have f:=heap_setCell_same _ g (j+1) _ T b h0;have i:=heap_setCell_same _ g (j+2) _ T c f;have k:=heap_setCell_same _ g (j+3) _ T d i;have l:=heap_setCell_same _ g (j+4) _ T e k;refine⟨_,l,by simp,?_,?_,?_,?_,?_,?_⟩
 .rw [JA (by omega),JA (by omega),JA (by omega),JA (by omega),Array.getElem?_setIfInBounds_self_of_lt (by omega)]
 .rw [JA (by omega),JA (by omega),JA (by omega),Array.getElem?_setIfInBounds_self_of_lt (by simp;omega)]
 .rw [JA (by omega),JA (by omega),Array.getElem?_setIfInBounds_self_of_lt (by simp;omega)]
 .rw [JA (by omega),Array.getElem?_setIfInBounds_self_of_lt (by simp;omega)]
 .rw [Array.getElem?_setIfInBounds_self_of_lt (by simp;omega)]
 .intro o p;rw [JA (by omega),JA (by omega),JA (by omega),JA (by omega),JA (by omega)]
def ud (w1:World) (b j:Nat) (a c d e f:Value):aa (λk=>k=b) w1 (((((w1.setCell ⟨b,j,none⟩ a).setCell ⟨b,j+1,none⟩ c).setCell ⟨b,j+2,none⟩ d).setCell ⟨b,j+3,none⟩ e).setCell ⟨b,j+4,none⟩ f):=
   ((((aL (F:=λk=>k=b) w1 rfl j a).trans (aL (F:=λk=>k=b) _ rfl (j+1) c) (λ_ h=> .inl h)).trans (aL (F:=λk=>k=b) _ rfl (j+2) d) (λ_ h=> .inl h)).trans (aL (F:=λk=>k=b) _ rfl (j+3) e) (λ_ h=> .inl h)).trans (aL (F:=λk=>k=b) _ rfl (j+4) f) (λ_ h=> .inl h)
def ij (w:World) (B g n k:Nat) (R:Nat->PC):Prop:=(∃cur,w.heap[g]? =some (.cells cur 230 (0,0))/\cur.size=n*5)/\∀i,i<k->lM w B g i (R i)
def ij.aw {B:Nat} {R:Nat->PC} (h:ij w B g n k R) (c:aa F w w') (b:¬F g) (e:∀k,F k->k<B):ij w' B g n k R:=by
 obtain⟨⟨cur,a,j⟩,d⟩:=h;exact⟨⟨cur,(c.block g (aq a) b).trans a,j⟩,λi f=>(d i f).aw c b e⟩
def ij.lt {B:Nat} {R:Nat->PC} (h:ij w B g n k R):g<w.heap.size:=by
 obtain⟨⟨cur,a,c⟩,b⟩:=h;exact aq a
def ij.spot {B:Nat} {R:Nat->PC} (h:ij w B g n k R) (d:k<n):∀j,j<5->∃v,w.cell? ⟨g,k*5+j,none⟩=some v:=by
 obtain⟨⟨cur,a,e⟩,b⟩:=h;intro j c;have bq:k*5+j<cur.size:=by omega
 exact⟨cur[k*5+j],aj a (by simp [bq])⟩
def ij.fz {B:Nat} {R:Nat->PC} (h:ij w B g n k R) (j:Nat):w.frozen? (aD g j)=false:=by
 obtain⟨⟨cur,a,c⟩,b⟩:=h;exact ae a j
def ij.snoc {B:Nat} {R:Nat->PC} (h:ij w B g n k R) (O:k<n) (E:g<B) (a:Option Addr) (c:Nat) (G:Src w a (R k).d.length (R k).d) (l:∀y,a=some y->B<=y.block):
  ij (((((w.setCell ⟨g,k*5,none⟩ (.int .i64 ((R k).e:Int))).setCell ⟨g,k*5+1,none⟩ (.int .i64 ((R k).p:Int))).setCell ⟨g,k*5+2,none⟩ (.int .i64 ((R k).i:Int))).setCell ⟨g,k*5+3,none⟩ (.int .i64 ((R k).c:Int))).setCell ⟨g,k*5+4,none⟩ (.slice a (R k).d.length c)) B g n (k+1) R:=by
 obtain⟨⟨cur,m,eM⟩,D⟩:=h;obtain⟨b,UJ,aoF,t,u,x,z,A,C⟩:=NQ m (j:=k*5) (by omega) (iV ((R k).e:Int)) (iV ((R k).p:Int)) (iV ((R k).i:Int)) (iV ((R k).c:Int)) (.slice a (R k).d.length c);have fb:=ud w g (k*5) (iV ((R k).e:Int)) (iV ((R k).p:Int)) (iV ((R k).i:Int)) (iV ((R k).c:Int)) (.slice a (R k).d.length c);refine⟨⟨b,UJ,by omega⟩,λi N=>?_⟩;by_cases e:i=k
 .subst e;exact⟨a,c,aj UJ t,aj UJ u,aj UJ x,aj UJ z,aj UJ A,G.pg fb (λy f _ e=>by have:=l y f;omega),l⟩
 .obtain⟨s,c',I,J,K,p3,L,M,r⟩:=D i (by omega);have q:∀o v,o<k*5\/k*5+5<=o->w.cell? (aD g o)=some v->(((((w.setCell ⟨g,k*5,none⟩ (.int .i64 ((R k).e:Int))).setCell ⟨g,k*5+1,none⟩ (.int .i64 ((R k).p:Int))).setCell ⟨g,k*5+2,none⟩ (.int .i64 ((R k).i:Int))).setCell ⟨g,k*5+3,none⟩ (.int .i64 ((R k).c:Int))).setCell ⟨g,k*5+4,none⟩ (.slice a (R k).d.length c)).cell? (aD g o)=some v:=λo v F H=>by
   refine aj UJ ((C o F).trans ?_);simpa [World.cell?,m] using H
  exact⟨s,c',q _ _ (by omega) I,q _ _ (by omega) J,q _ _ (by omega) K,q _ _ (by omega) p3,q _ _ (by omega) L,M.pg fb (λy f _ e=>by have:=r y f;omega),r⟩
def Mz (lo:Nat) (w:World) (n:Nat) (R:Nat->PC) (v:Value):Prop:=∃g B,v= .slice (some (aD g 0)) n n/\lo<=g/\g<B/\ij w B g n n R
def lM.range {B:Nat} {q:PC} (h:lM w B g i q):∃a k,w.rangeAt g (i*5) (eS (q.e:Int) (q.p:Int) (q.i:Int) (q.c:Int) a q.d.length k).toList/\Src w a q.d.length q.d/\∀y,a=some y->B<=y.block:=by
 obtain⟨a,k,h0,f,l,m,n,o,r⟩:=h;refine⟨a,k,λj v b=>?_,o,r⟩
 match j,b with
 |0,b=>cases b;exact h0
 |1,b=>cases b;exact f
 |2,b=>cases b;exact l
 |3,b=>cases b;exact m
 |4,b=>cases b;exact n
 |j+5,b=>simp at b
def MA {B:Nat} {R:Nat->PC} (h:ij w B g n n R) (x:n<=256):
  Calls prog 155 #[.slice (some (aD g 0)) n n] w λe w'=>e= .returned (iV ((gQ R n:Nat):Int))/\bW w w':=by
 have H:=yh h;go_in;go_wp2;go_loopw [3,8] (λr i wr=>∃k:Nat,k<=n/\i=iV k/\r=iV ((gQ R k:Nat):Int)/\bW w wr) (λ_ i _=>n-(intOf i).toNat);case atStart=>exact⟨0,dL _,rfl,rfl,bi _ _⟩
 case round=>
  obtain⟨k,v,rfl,rfl,j⟩:=hrel;by_cases q:k<n
  .have u:(k:Int)<(n:Int):=(by omega);have y:(0:Int)<=(k:Int):=(by omega);obtain⟨a,c,mU,_,_⟩:=((H.o.2 k q).later j).range;have b:=yh mU;have s:=Ec R k;have f:=yh (λo=>j.trans ((aJ wr o).mono j.size));by_cases m:(R k).e<=1073741824
   .have t:((R k).e:Int)<=1073741824:=(by omega);have l:Yh (gQ R (k+1)=max (gQ R k) (R k).e):=(by rw [gQ,aG m];exact rfl);go_wp2_with (refine wpList_load_mid rfl 230 _ rfl g (k*5) rfl (eS ((R k).e:Int) ((R k).p:Int) ((R k).i:Int) ((R k).c:Int) a (R k).d.length c).toList _ b.o underlying230 rfl ko ?_);go_roundw;case rel=>exact⟨k+1,by omega,by go_num,by rw [l.out];congr 1;omega,f.o _⟩
    case measure=>simp [intOf];omega
   .have t:¬((R k).e:Int)<=1073741824:=(by omega);have l:Yh (gQ R (k+1)=gQ R k):=(by rw [gQ,aB m];exact rfl);go_wp2_with (refine wpList_load_mid rfl 230 _ rfl g (k*5) rfl (eS ((R k).e:Int) ((R k).p:Int) ((R k).i:Int) ((R k).c:Int) a (R k).d.length c).toList _ b.o underlying230 rfl ko ?_);go_roundw;case rel=>exact⟨k+1,by omega,by go_num,by rw [l.out],f.o _⟩
    case measure=>simp [intOf];omega
  .have u:¬(k:Int)<(n:Int):=(by omega);obtain rfl:k=n:=(by omega);have f:=yh j;go_wp2;go_ret;exact⟨rfl,f.o⟩
section
def Gx (q:PC) (E P i c:Nat):Bool:=decide (q.e=E/\q.p=P/\q.i=i/\q.c=c/\0<q.d.length/\(i+1≠c->q.d.length=492)/\1<=c/\c<=17)
def Ei {q:PC} {E:Nat}:Gx q E P i c=true↔q.ok E P i c/\1<=c/\c<=17:=by
 unfold Gx PC.ok;rw [decide_eq_true_iff];constructor
 .rintro ⟨a,b,d,e,f,g,j,k⟩;exact⟨⟨a,b,d,e,f,g⟩,j,k⟩
 .rintro ⟨⟨a,b,d,e,f,g⟩,j,k⟩;exact⟨a,b,d,e,f,g,j,k⟩
structure SS where
 rs:List (List Int)
 rc:List Int
 hd:Nat
 ps:Nat
 j:Nat
 c:Nat
section
variable (R:Nat->PC) (E T n:Nat)
def SS.due (st:SS) (x:Nat):Nat:=if st.j=0 then (R ((T+x)%n)).c else st.c
def SS.ue (st:SS) (x:Nat):Bool:=Gx (R ((T+x)%n)) E (T+x) st.j (st.due R T n x)
def SS.next (st:SS) (x:Nat):SS:=
 if (R ((T+x)%n)).i+1=(R ((T+x)%n)).c then ⟨st.rs ++ [st.rc ++ (R ((T+x)%n)).d], [],T+x+1,T+x,0,st.due R T n x⟩
 else ⟨st.rs,st.rc ++ (R ((T+x)%n)).d,st.hd,T+x,st.j+1,st.due R T n x⟩
def SS.start:SS:=⟨[], [],T,0,0,0⟩
def sK:List Nat->SS->Option SS
 | [],st=>some st
 |x :: xs,st=>if st.ue R E T n x=true then sK xs (st.next R T n x) else none
end
def CV (R:Nat->PC) (E T n:Nat):∀(xs:List Nat) (a MB:SS) (x:Nat),sK R E T n xs a=some MB->MB.ue R E T n x=true->sK R E T n (xs ++ [x]) a=some (MB.next R T n x)
 | [],a,MB,x,h,hg=>by
  cases h;show (if _ then _ else _)=_;rw [aG hg];rfl
 |y :: ys,a,MB,x,h,hg=>by
  show (if a.ue R E T n y=true then sK R E T n (ys ++ [x]) (a.next R T n y) else none)=_;unfold sK at h;split at h
  .rename_i b;rw [aG b];exact CV R E T n ys _ MB x h hg
  .cases h
def sL (R:Nat->PC) (E T n:Nat):∀(xs:List Nat) (a MB:SS) (x:Nat),sK R E T n (xs ++ [x]) a=some MB->∃s1,sK R E T n xs a=some s1/\s1.ue R E T n x=true/\MB=s1.next R T n x
 | [],a,MB,x,h=>by
  have h:(if a.ue R E T n x=true then sK R E T n [] (a.next R T n x) else none)=some MB:=h;split at h
  .rename_i b;cases h;exact⟨a,rfl,b,rfl⟩
  .cases h
 |y :: ys,a,MB,x,h=>by
  have h:(if a.ue R E T n y=true then sK R E T n (ys ++ [x]) (a.next R T n y) else none)=some MB:=h;split at h
  .rename_i b;obtain⟨s1,c,d,e⟩:=sL R E T n ys _ MB x h;refine⟨s1,?_,d,e⟩;show (if _ then _ else _)=_;rw [aG b];exact c
  .cases h
def zG (R:Nat->PC) (E T n:Nat) (hd:∀i,(R i).d.length<=492) (g:∀i,(R i).c<=65536):∀(k:Nat) (xs:List Nat) (a:SS),xs.length=k->sK R E T n xs (SS.start T)=some a->a.rs.length<=k/\a.rc.length<=492*k/\a.j<=k/\a.c<=65536
 |0,xs,a,hl,h=>by
  obtain rfl:=yH hl;cases h;exact⟨bR _,bR _,bR _,dL _⟩
 |k+1,xs,a,hl,h=>by
  obtain⟨b,x,rfl⟩:∃b x,xs=b ++ [x]:=by
   have dM:xs≠ []:=(by intro e;rw [e] at hl;cases hl);exact⟨xs.dropLast,xs.getLast dM,(List.dropLast_concat_getLast dM).symm⟩
  obtain⟨s1,l,m,rfl⟩:=sL R E T n b _ a x h;have q:=zG R E T n hd g k b s1 (by simpa using hl) l;have o:=hd ((T+x)%n);have p:=g ((T+x)%n);have f:s1.due R T n x<=65536:=by unfold SS.due;split <;> omega
  unfold SS.next;split
  .refine⟨?_,?_,?_,f⟩
   .simp;omega
   .simp
   .simp
  .refine⟨?_,?_,?_,f⟩
   .show s1.rs.length<=_;omega
   .show (s1.rc ++ _).length<=_;rw [ee];omega
   .show s1.j+1<=_;omega
def Rp (R:Nat->PC) (n:Nat) (P:Nat):PC:=R (P%n)
def uf (R:Nat->PC) (n:Nat) (q:Nat):Rp R n (q+n)=Rp R n q:=by unfold Rp;rw [Nat.add_mod_right]
def SS.Ro (R:Nat->PC) (T n:Nat) {a:SS} (b:a.hd+a.j=T+k):a.due R T n k=nM (Rp R n) a.hd a.j a.c:=by
 unfold SS.due nM;split
 .rename_i h;rw [show T+k=a.hd by omega];rfl
 .rfl
def vA (R:Nat->PC) (E T n:Nat):∀(k:Nat) (b:SS),sK R E T n (List.range k) (SS.start T)=some b->Scan (Rp R n) E T b.rs b.hd b.j b.c b.rc/\b.hd+b.j=T+k
 |0,b,h=>by
  cases h;exact⟨Scan.start _ _ _ _,rfl⟩
 |k+1,b,h=>by
  rw [List.range_succ] at h;obtain⟨s1,l,a,rfl⟩:=sL R E T n _ _ b k h;obtain⟨g,f⟩:=vA R E T n k s1 l;have hd:=SS.Ro R T n f;unfold SS.ue at a;rw [Ei,hd,<-f] at a;have i:R ((s1.hd+s1.j)%n)=Rp R n (s1.hd+s1.j):=rfl;rw [i] at a;unfold SS.next;rw [hd,<-f,i,a.1.2.2.1,a.1.2.2.2.1];split
  .rename_i d;refine⟨g.full a.1 a.2.2 d _,by show s1.hd+s1.j+1+0=_;omega⟩
  .rename_i d;have bq:s1.j<nM (Rp R n) s1.hd s1.j s1.c:=by
    by_cases e:s1.j=0
    .rw [e] at a⊢;omega
    .have:=(g.c (by omega)).2.2;unfold nM;rw [aB e];exact this
   refine⟨g.grow a.1 a.2.1 a.2.2 d bq,by show s1.hd+(s1.j+1)=_;omega⟩
def NR (R:Nat->PC) (E T n k:Nat) (a:SS) (h:sK R E T n (List.range k) (SS.start T)=some a) (b:a.ue R E T n k=false):dF (Rp R n) E T a.rs a.hd/\∀c d,¬Rec (Rp R n) E a.hd c d:=by
 obtain⟨f,e⟩:=vA R E T n k a h;refine⟨f.t,f.ends (λg=>?_)⟩;unfold SS.ue at b;rw [(SS.Ro R T n e),<-e] at b;have:=(Ei (q:=Rp R n (a.hd+a.j))).2 g;rw [show R ((a.hd+a.j)%n)=Rp R n (a.hd+a.j) from rfl,this] at b;cases b
def NS (R:Nat->PC) (E T n:Nat) (e:1<=n) (a:SS) (h:sK R E T n (List.range n) (SS.start T)=some a):dF (Rp R n) E T a.rs a.hd/\∀c d,¬Rec (Rp R n) E a.hd c d:=by
 obtain⟨b,f⟩:=vA R E T n n a h;exact⟨b.t,b.round e (uf R n) f⟩
end
def Rq:(prog.info? 228).map (·.size)=some 4:=by kernel_rfl
abbrev zH (e q i c:Int):Value:= .agg #[iV e,iV q,iV i,iV c]
def Gy (e q i c:Nat) (w:World) (a:c<=100000):
  Calls prog 195 #[zH e q i c] w λr w'=>r= .returned (.bool (decide (i+1=c)))/\bW w w':=by
 have hd:decide (i+1=c)=((i:Int) == (c:Int)-1):=by
  rw [Bool.eq_iff_iff];simp only [decide_eq_true_eq,beq_iff_eq];omega
 rw [hd];go_in;go_wp2;go_ret;exact⟨rfl,(yh (aJ w (.cells #[.int .i64 (e:Int), .int .i64 (q:Int), .int .i64 (i:Int), .int .i64 (c:Int)] 228))).out⟩
def Rr (e q i c:Nat) (w:World) (d:q<=4294967296) (f:i<=4294967296):
  Calls prog 216 #[zH e q i c] w λr w'=>r= .returned (zH e ((q+1:Nat):Int) ((i+1:Nat):Int) c)/\bW w w':=by
 have a:((q+1:Nat):Int)=(q:Int)+1:=by omega
 have b:((i+1:Nat):Int)=(i:Int)+1:=by omega
 rw [a,b];go_in;go_wp2;exact bodyPost_ret (results_cell_row (P:=prog) rfl _ _ (w.heap.size+1) 228 #[iV (e:Int),iV ((q:Int)+1),iV ((i:Int)+1),iV (c:Int)] (0,0) _ rfl (by have:=heap_alloc_new (w.alloc (.cells #[.int .i64 (e:Int), .int .i64 ((q:Int)+1), .int .i64 ((i:Int)+1), .int .i64 (c:Int)] 228)) (.cells #[.int .i64 (e:Int), .int .i64 ((q:Int)+1), .int .i64 ((i:Int)+1), .int .i64 (c:Int)] 228);rwa [World.size_alloc] at this) underlying228 rfl Rq) rfl ⟨rfl,gZ _ _ _⟩
def adf (q:PC) (a:Option Addr) (n k:Nat) (E P i c:Nat) (w:World) (h:¬(q.e=E/\q.p=P/\q.i=i/\q.c=c)):
  Calls prog 194 #[lw q.e q.p q.i q.c a n k,zH E P i c] w λr w'=>r= .returned (.bool false)/\bW w w':=by
 go_in;go_wp2;all_goals first|(go_ret;exact⟨rfl,gZ _ _ _⟩)|(exfalso;omega)
def ZI (e p i c:Nat) (d:List Int) (a:Option Addr) (k:Nat) (w:World):
  Calls prog 194 #[lw e p i c a d.length k,zH e p i c] w λr w'=>r= .returned (.bool (Gx ⟨e,p,i,c,d⟩ e p i c))/\bW w w':=by
 by_cases q:c<1
 .have Y7:(c:Int)<1:=by omega
  rw [show Gx ⟨e,p,i,c,d⟩ e p i c=false by unfold Gx;rw [decide_eq_false_iff_not];omega];go_in;go_wp2;go_ret;exact⟨rfl,gZ _ _ _⟩
 .have Y7:¬(c:Int)<1:=by omega
  by_cases s:17<c
  .have j:17<(c:Int):=(by omega);rw [show Gx ⟨e,p,i,c,d⟩ e p i c=false by unfold Gx;rw [decide_eq_false_iff_not];omega];go_in;go_wp2;go_ret;exact⟨rfl,gZ _ _ _⟩
  .have j:¬17<(c:Int):=(by omega);have g:=λwx=>Gy e p i c wx (by omega);have b:=yh (gZ w (.cells (eS e p i c a d.length k) 230) (.cells #[.int .i64 (e:Int), .int .i64 (p:Int), .int .i64 (i:Int), .int .i64 (c:Int)] 228));have rL:((w.alloc (.cells (eS e p i c a d.length k) 230)).alloc (.cells #[.int .i64 (e:Int), .int .i64 (p:Int), .int .i64 (i:Int), .int .i64 (c:Int)] 228)).heap[w.heap.size]? =some (.cells (eS e p i c a d.length k) 230 (0,0)):=(Below.heap_alloc _ _ _ (by simp)).trans (heap_alloc_new _ _);have l:=yh rL;by_cases f:i+1=c
   .rw [show Gx ⟨e,p,i,c,d⟩ e p i c=decide (0<d.length) by unfold Gx;rw [decide_eq_decide];constructor;(intro h;exact h.2.2.2.2.1);(intro h;exact⟨rfl,rfl,rfl,rfl,h,λn=>absurd f n,by omega,by omega⟩)];rw [show decide (i+1=c)=true by rw [decide_eq_true_eq];exact f] at g;go_in;go_wp2_with fail;refine(g _).mono ?_;rintro r w1 ⟨rfl,ar⟩;have m:w1.cell? (aD w.heap.size 4)=some (.slice a d.length k):=gH ((ar.block _ (by simp;omega)).trans l.o);go_wp2;go_ret;exact⟨rfl,(yh (b.o.trans (ar.mono b.o.size))).out⟩
   .rw [show Gx ⟨e,p,i,c,d⟩ e p i c=((d.length:Int) == 492) by unfold Gx;rw [Bool.eq_iff_iff];rw [decide_eq_true_iff,beq_iff_eq];constructor;(intro h;have:d.length=492:=h.2.2.2.2.2.1 f;omega);(intro h;exact⟨rfl,rfl,rfl,rfl,by show 0<d.length;omega,λ_=>by show d.length=492;omega,by omega,by omega⟩)];rw [show decide (i+1=c)=false by rw [decide_eq_false_iff_not];exact f] at g;go_in;go_wp2_with fail;refine(g _).mono ?_;rintro r w1 ⟨rfl,ar⟩;have m:w1.cell? (aD w.heap.size 4)=some (.slice a d.length k):=gH ((ar.block _ (by simp;omega)).trans l.o);go_wp2;go_ret;exact⟨rfl,(yh (b.o.trans (ar.mono b.o.size))).out⟩
def Rt (q:PC) (a:Option Addr) (k:Nat) (E P i c:Nat) (w:World):
  Calls prog 194 #[lw q.e q.p q.i q.c a q.d.length k,zH E P i c] w λr w'=>r= .returned (.bool (Gx q E P i c))/\bW w w':=by
 by_cases h:q.e=E/\q.p=P/\q.i=i/\q.c=c
 .obtain⟨rfl,rfl,rfl,rfl⟩:=h;exact ZI q.e q.p q.i q.c q.d a k w
 .rw [show Gx q E P i c=false by unfold Gx;rw [decide_eq_false_iff_not];exact λb=>h ⟨b.1,b.2.1,b.2.2.1,b.2.2.2.1⟩];exact adf q a q.d.length k E P i c w h
section
open Go.RowKit Go.Shelf
attribute [local go_sem] Oper.semAt_some
def Gz (n₀ b c:Nat) (W W':World):Prop:=Below n₀ W W'/\W'.heap[b]? =W.heap[b]?/\W'.heap[c]? =W.heap[c]?
def Gz.t {b:Nat} {A B C:World} (h:Gz n₀ b c A B) (k:Gz n₀ b c B C):Gz n₀ b c A C:=⟨h.1.trans k.1,k.2.1.trans h.2.1,k.2.2.trans h.2.2⟩
def Gz.b {b:Nat} (g:n₀<=w.heap.size) (i:b<w.heap.size) (j:c<w.heap.size) (W:World) (l:Nat) (o a:Obj) (f:w.heap.size<=l) (h:W.heap[l]? =some o) (d:o.isCells=false) (e:o.isWalk=false):Gz n₀ b c W (W.putObj l a):=
   ⟨belowK_b g W l o a f h d e,World.putObj_heap_other (by omega),World.putObj_heap_other (by omega)⟩
def Gz.refl (a b c:Nat) (W:World):Gz a b c W W:=⟨bi _ _,rfl,rfl⟩
structure GA (w:World) (n₀ g n:Nat) (R:Nat->PC) (A:Nat->Option Addr) (C:Nat->Nat):Prop where
 lt:g<n₀
 p:∀i,i<n->w.rangeAt g (i*5) (eS ((R i).e:Int) ((R i).p:Int) ((R i).i:Int) ((R i).c:Int) (A i) (R i).d.length (C i)).toList
def GA.below {R:Nat->PC} {A:Nat->Option Addr} {C:Nat->Nat} (h:GA w n₀ g n R A C) (a:Below n₀ w w'):GA w' n₀ g n R A C:=
   ⟨h.lt,λi b j v c=>(a.cell (p:=⟨g,i*5+j,none⟩) h.lt).trans (h.p i b j v c)⟩
def Us (g n T:Nat) (w:World):
  Calls prog 193 #[.slice (some (aD g 0)) n n,iV (T:Int)] w λe w'=>e= .returned (.func (.func 227) #[] #[pQ w.heap.size, .pointer (some ⟨w.heap.size+1,0,none⟩)])/\w'=(w.alloc (.cells #[.slice (some ⟨g,0,none⟩) n n] 187)).alloc (.cells #[.int .i64 (T:Int)] 3):=by
 go_in;go_wp2;go_ret;exact⟨rfl,rfl⟩
def VQ (n T:Nat) (R:Nat->PC) (A:Nat->Option Addr) (C:Nat->Nat) (x:Fin n):Array Value:=
   #[iV ((T:Int)+(x.1:Int)),lw ((R ((T+x.1)%n)).e:Int) ((R ((T+x.1)%n)).p:Int) ((R ((T+x.1)%n)).i:Int) ((R ((T+x.1)%n)).c:Int) (A ((T+x.1)%n)) (R ((T+x.1)%n)).d.length (C ((T+x.1)%n))]
def ug {n:Nat} (xs:List (Fin n)) (k:Nat):Prop:=xs.map Fin.val=List.range k
def ug.nil:ug ([]:List (Fin n)) 0:=rfl
def ug.length {xs:List (Fin n)} (h:ug xs k):xs.length=k:=by have:=congrArg List.length h;simpa using this
def ug.snoc {xs:List (Fin n)} (h:ug xs k) (a:k<n):ug (xs ++ [⟨k,a⟩]) (k+1):=by
 unfold ug at*;rw [List.map_append,h,List.range_succ];rfl
def sM {F:Fence} {P:Program} {l f:Nat} {b:Array Value} {a body:Code} {A B:World->Prop}
    (h:RoundIn F n P l f b a body w λe W'=>(e= .returned (.bool true)/\A W')\/(e= .returned (.bool false)/\B W')):
  RoundIn F n P l f b a body w λe W'=>∃r,e= .returned (.bool r)/\(r=true->A W')/\(r=false->B W'):=
 h.mono λe W' h=>by
  rcases h with ⟨rfl,h⟩|⟨rfl,h⟩
  .exact⟨true,rfl,λ_=>h,λe=>by cases e⟩
  .exact⟨false,rfl,λe=>(by cases e),λ_=>h⟩
set_option maxRecDepth 100000 in
def Ut (m:Nat) (P:1<=m) (l c b j g n T:Nat) (R:Nat->PC) (A:Nat->Option Addr) (C:Nat->Nat) (s:1<=n) (lJ:n<=256) (N:T<=1073741824) (J o:List (Fin n)->World->Prop)
    (D:∀a (x:Fin n) W,J a W->a.length<n->YieldAt Fence.wide (m-1) prog l (VQ n T R A C x) W λe W'=>
     (e= .returned (.bool true)/\J (a ++ [x]) W'/\Gz j c b W W')\/(e= .returned (.bool false)/\o (a ++ [x]) W'))
    (W:World) (Km:W.heap[c]? =some (.cells #[.slice (some ⟨g,0,none⟩) n n] 187 (0,0))) (f:W.heap[b]? =some (.cells #[.int .i64 (T:Int)] 3 (0,0))) (z:GA W j g n R A C) (y:AbidesFrom W.heap.size J) (h0:J [] W):
  CallsIn Fence.wide m prog 227 #[.func (.yield l) #[] #[],pQ c,pQ b] W λe W'=>(∃v,e= .returned v)/\
     ((∃ys,ug ys n/\J ys W')\/(∃a,(∃k,k<n/\ug a (k+1))/\o a W')):=by
 have yM:=aM Km;refine callsIn_of_wp func227 rfl trivial ?_ rfl;simp only [ntmps227,List.size_toArray,List.length_cons,List.length_nil,Nat.reduceAdd,Nat.reduceSub,Array.replicate_succ,Array.replicate_zero,List.push_toArray,List.append_toArray,List.nil_append,List.cons_append]
 gi_wp2
 gi_loopw [8] (λi wr=>∃(k:Nat) (a:List (Fin n)),k<=n/\i=iV k/\ug a k/\J a wr/\Gz j c b W wr)
    (λi _=>n-(intOf i).toNat)
 case atStart=>exact⟨0, [],dL _,rfl,ug.nil,h0,Gz.refl _ _ _ _⟩
 case round=>
  obtain⟨k,a,O,rfl,l8,UK,fb⟩:=hrel;have q:=l8.length;by_cases bq:k<n
  .have el:=aM (fb.2.1.trans Km);have pk:=aM (fb.2.2.trans f);obtain⟨M,u,d,body,F,ZJ⟩:=D a ⟨k,bq⟩ wr.drew (y a wr wr.drew none UK ⟨rfl,rfl,rfl,bR _,λ_ _ _=>rfl⟩ (λr e=>by cases e)) (by omega);have UL:prog.follows .mixedOrders=true:=(by kernel_rfl);have cC:(k:Int)<(n:Int):=(by omega);have mU:=(z.below fb.1).p ((T+k)%n) (Nat.mod_lt _ s);have E:=Nat.mod_lt (T+k) s;have Q:((T:Int)+(k:Int)).tmod (n:Int)=(((T+k)%n:Nat):Int):=(by rw [yI (by omega),<-Int.natCast_add,<-Int.natCast_emod]);have mq:((T:Int)+(k:Int))%(n:Int)=(((T+k)%n:Nat):Int):=by rw [<-Int.natCast_add,<-Int.natCast_emod]
   dsimp only [VQ] at F
   generalize (T+k)%n=x at*;obtain⟨w,H,I,K,L⟩:=eQ (mU 0 _ rfl) (mU 1 _ rfl) (mU 2 _ rfl) (mU 3 _ rfl) (mU 4 _ rfl);rw [Nat.add_zero] at w;have aoG:(x:Int)<(n:Int):=(by omega);have rL:(0:Int)<=(x:Int):=by omega
   gi_wp2
   gi_region_with_o ((refine(sM ZJ).mono ?_;rintro e G ⟨r,rfl,mt,fB⟩;have zI:=mt;have xK:=fB;clear mt fB))
   all_goals
    cases r
    .gi_wp2
     refine bodyPost_ret (results_none rfl _ _ _) rfl ?_;exact⟨⟨_,rfl⟩, .inr ⟨_,⟨k,bq,l8.snoc bq⟩,xK (by simp)⟩⟩
    .gi_wp2
     go_roundw;case rel=>exact⟨k+1,_,by omega,by go_num,l8.snoc bq,(zI (by simp)).1,fb.t (Gz.t (B:=wr.drew) ⟨ai (bi _ _),rfl,rfl⟩ (zI (by simp)).2)⟩
     case measure=>simp [intOf];omega
  .obtain rfl:k=n:=by omega
   gi_wp2
   go_end0
   exact⟨⟨_,rfl⟩, .inl ⟨a,l8,UK⟩⟩
def L9 (m:Nat) (r:1<=m) (c b d g n T:Nat) (R:Nat->PC) (A:Nat->Option Addr) (C:Nat->Nat) (s:1<=n) (lJ:n<=256) (p:T<=1073741824) (w:World) (ln:d<=w.heap.size)
    (Km:w.heap[c]? =some (.cells #[.slice (some ⟨g,0,none⟩) n n] 187 (0,0))) (a:w.heap[b]? =some (.cells #[.int .i64 (T:Int)] 3 (0,0))) (o:GA w d g n R A C):
  SeqStopsK Fence.wide m prog 227 #[pQ c,pQ b] (VQ n T R A C) (Gz d c b) (λt=>ug t n) (λf=>∃k,k<n/\ug f (k+1)) n w:=
 λl J i W e j _ q h0=>Ut m r l c b d g n T R A C s lJ p J i q W ((e.block _ (aq Km)).trans Km) ((e.block _ (aq a)).trans a) (o.below (e.mono ln)) j h0
end
def dR (W:World) (B:Nat) (v:Value) (rs:List (List Int)) (X:Nat->Prop):Prop:=
 ∃vs,W.ownsRow B 36 1 v rs.length vs/\∀i (hi:i<rs.length),∃g c,vs[i]? =some (.slice (some (aD g 0)) (rs[i]).length c)/\ay W 5 g c (bs rs[i])/\B<=g/\¬X g
def dR.nil (W:World) (B:Nat) (X:Nat->Prop):dR W B (.slice none 0 0) [] X:=⟨[],World.ownsRow_nil _ _ _ _,λi a=>by cases a⟩
def kD (W W':World):Prop:=∀(b:Nat) (cur:Array Value) (t:TypeId) (fz:Nat×Nat),W.heap[b]? =some (Obj.cells cur t fz)->W'.heap[b]? =some (Obj.cells cur t fz)
def bB {B:Nat} (h:W.ownsRow B e 1 v n xs) (a:v.ownBlock=some g):∃cur,W.heap[g]? =some (.cells cur e (0,0)):=by
 obtain⟨_,⟨rfl,_⟩|⟨d,b,cur,rfl,_,c,_⟩⟩:=h
 .simp [Value.ownBlock] at a
 .simp [Value.ownBlock] at a;subst a;exact⟨cur,c⟩
def dS {B:Nat} (h:W.ownsRow B e 1 v n xs) (d:∀g,v.ownBlock=some g->W'.heap[g]? =W.heap[g]?):W'.ownsRow B e 1 v n xs:=by
 obtain⟨b,h|⟨g,a,cur,rfl,f,tF,c⟩⟩:=h
 .exact⟨b, .inl h⟩
 .exact⟨b, .inr ⟨g,a,cur,rfl,f,(d g rfl).trans tF,c⟩⟩
def dR.step {B:Nat} (h:dR W B v rs X) (be:∀g,v.ownBlock=some g->W'.heap[g]? =W.heap[g]?)
    (GB:∀g cur,W.heap[g]? =some (.cells cur 5 (0,0))->¬X g->W'.heap[g]? =W.heap[g]?) (l:∀g,g<W.heap.size->X' g->X g):dR W' B v rs X':=by
 obtain⟨n,f,j⟩:=h;refine⟨n,dS f be,λi m=>?_⟩;obtain⟨g,c,e,b,k,d⟩:=j i m;have bq:=b.lt;obtain⟨cur,a,j6⟩:=b;exact⟨g,c,e,⟨cur,(GB g cur a d).trans a,j6⟩,k,λh=>d (l g bq h)⟩
def dR.cells {B:Nat} (h:dR W B v rs X) (d:kD W W'):dR W' B v rs X:=by
 obtain⟨n,b,f⟩:=h;refine⟨n,dS b (λg k=>?_),λi l=>?_⟩
 .obtain⟨cur,a⟩:=bB b k;rw [d _ _ _ _ a,a]
 .obtain⟨g,c,e,⟨cur,a,j6⟩,j,m⟩:=f i l;exact⟨g,c,e,⟨cur,d _ _ _ _ a,j6⟩,j,m⟩
def Own.cells {B:Nat} (h:Own W B v l) (b:kD W W'):Own W' B v l:=
 dS h (λg c=>by
  obtain⟨cur,a⟩:=bB h c;rw [b _ _ _ _ a,a])
structure jy (W:World) (B0 B E:Nat) (st:SS) (vR vr:Value):Prop where
 r:Boxed W B0 62 vR
 c:Boxed W (B0+1) 36 vr
 h:Boxed W (B0+2) 3 (iV (st.hd:Int))
 d:W.heap[B0+3]? =some (.cells #[.int .i64 (E:Int), .int .i64 (st.ps:Int), .int .i64 (st.j:Int), .int .i64 (st.c:Int)] 228 (0,0))
 rs:dR W B vR st.rs (λk=>vr.ownBlock=some k)
 rc:Own W B vr st.rc
 lo:B0+6<=B
def jy.cells {B:Nat} {b:SS} (h:jy W B0 B E b vR vr) (a:kD W W'):jy W' B0 B E b vR vr:=
   ⟨a _ _ _ _ h.r,a _ _ _ _ h.c,a _ _ _ _ h.h,a _ _ _ _ h.d,h.rs.cells a,h.rc.cells a,h.lo⟩
def eB (a:bW W W'):kD W W':=λb _ _ _ h=>(a.block b (aq h)).trans h
def jh {row:Option Nat} (d:W.grownBy W' row) (f:∀r,row=some r->∃o:Obj,W.heap[r]? =some o/\o.isCells=false):kD W W':=λb cur t g h=>by
 refine(d.block b (aq h) (λe=>?_)).trans h;obtain⟨o,a,c⟩:=f b e.symm;rw [h] at a;cases a;cases c
def jv {B:Nat} (h:W.ownsRow B e 1 v n xs) (a:v.ownBlock=some g):B<=g:=by
 obtain⟨_,⟨rfl,_⟩|⟨c,b,cur,rfl,f,d,_⟩⟩:=h
 .simp [Value.ownBlock] at a
 .simp [Value.ownBlock] at a;omega
def uh {a:Array Value} {t d:TypeId} {e b:Nat×Nat} (h:W.heap[g]? =some (.cells cur t e)) (c:W.heap[g]? =some (.cells a d b)) (f:t≠d):False:=by
 rw [h] at c;cases c;exact f rfl
def jy.grow {B:Nat} {a:SS} (h:jy W B0 B E a vR vr)
    (j:w2.ownsRow B 5 1 (.slice (some (aD g 0)) (a.rc.length+d.length) cap) (a.rc.length+d.length) (bs a.rc ++ bs d)) (i:W.grownBy w2 vr.ownBlock) (it:vr.ownBlock=some g\/g=W.heap.size):
  Boxed w2 B0 62 vR/\Boxed w2 (B0+1) 36 vr/\Boxed w2 (B0+2) 3 (iV (a.hd:Int))/\w2.heap[B0+3]? =W.heap[B0+3]?/\
   dR w2 B vR a.rs (λk=>k=g)/\Own w2 B (.slice (some (aD g 0)) (a.rc.length+d.length) cap) (a.rc ++ d):=by
 have oo:=h.lo;have dM:∀k,k<B->vr.ownBlock≠some k:=λk b e=>by have:=jv h.rc e;omega
 have f:∀k,k<B->k<W.heap.size->w2.heap[k]? =W.heap[k]? :=λk b n=>i.block k n (λe=>dM k b e.symm);refine⟨(f _ (by omega) h.r.lt).trans h.r,(f _ (by omega) h.c.lt).trans h.c,(f _ (by omega) h.h.lt).trans h.h,f _ (by omega) (aq h.d),?_,?_⟩
 .refine h.rs.step (λk b=>?_) (λk cur m o=>?_) (λk b e=>?_)
  .obtain⟨p,l,_⟩:=h.rs;obtain⟨cur,ar⟩:=bB l b;refine i.block k (aq ar) (λe=>?_);obtain⟨adg,bd⟩:=bB h.rc e.symm;exact uh ar bd (by decide)
  .exact i.block k (aq m) (λe=>o e.symm)
  .rcases it with it|it
   .rw [e];exact it
   .omega
 .rw [<-iS] at j;have:a.rc.length+d.length=(a.rc ++ d).length:=by simp
  unfold Own;rw [this] at j⊢;exact j
def CW {B:Nat} {r:List Int} (be:W.ownsRow B 36 1 v rs.length vs)
    (Jk:∀i (b:i<rs.length),∃g c,vs[i]? =some (.slice (some (aD g 0)) (rs[i]).length c)/\ay W 5 g c (bs rs[i])/\B<=g) (p:ay W 5 g c (bs r)) (k:B<=g)
    (o:W'.ownsRow B 36 1 (.slice (some (aD g' 0)) (rs.length+1) Ru) (rs.length+1) (vs ++ [.slice (some (aD g 0)) r.length c])) (m:W.grownBy W' v.ownBlock):
  dR W' B (.slice (some (aD g' 0)) (rs.length+1) Ru) (rs ++ [r]) (λ_=>False):=by
 have n:vs.length=rs.length:=by have:=be.1;simpa using this
 have aw:∀{x y:Nat} {l:List Int},ay W 5 x y (bs l)->ay W' 5 x y (bs l):=λ{x y l} h=>by
  obtain⟨cur,a,j6⟩:=h;refine⟨cur,(m.block x (aq a) (λe=>?_)).trans a,j6⟩;obtain⟨adg,bd⟩:=bB be e.symm;exact uh a bd (by decide)
 refine⟨vs ++ [.slice (some (aD g 0)) r.length c],by rw [ee];exact o,λi b=>?_⟩;by_cases e:i<rs.length
 .obtain⟨x,y,d,f,j⟩:=Jk i e;refine⟨x,y,?_,?_,j,λh=>h⟩
  .rw [u9 (by omega),d,List.getElem_append_left e]
  .rw [List.getElem_append_left e];exact aw f
 .have nF:i=rs.length:=by simp at b;omega
  subst nF;refine⟨g,c,?_,?_,k,λh=>h⟩
  .rw [wm (by omega),n,Nat.sub_self];simp
  .simp;exact aw p
def jy.set {f:World} {B:Nat} {n:SS} (h:jy W B0 B E n vR vr) (a:aa (λk=>k=B0+3) W f) (ps j c:Nat)
    (hd:f.heap[B0+3]? =some (.cells #[.int .i64 (E:Int), .int .i64 (ps:Int), .int .i64 (j:Int), .int .i64 (c:Int)] 228 (0,0))):jy f B0 B E {n with ps:=ps,j:=j,c:=c} vR vr:=by
 have oo:=h.lo;refine⟨(a.block _ h.r.lt (by omega)).trans h.r,(a.block _ h.c.lt (by omega)).trans h.c,(a.block _ h.h.lt (by omega)).trans h.h,hd,?_,?_,oo⟩
 .refine h.rs.step (λg b=>?_) (λg cur m _=>?_) (λ_ _ e=>e)
  .obtain⟨o,l,_⟩:=h.rs;obtain⟨cur,i⟩:=bB l b;exact a.block g (aq i) (by have:=jv l b;omega)
  .exact a.block g (aq m) (λe=>uh m (e▸h.d) (by decide))
 .exact dS h.rc (λg b=>by
   obtain⟨cur,i⟩:=bB h.rc b;exact a.block g (aq i) (by have:=jv h.rc b;omega))
structure iE (B0:Nat) (w W W':World):Prop where
 b:bW w W'
 k:KeepsFrom (B0+6) W W'
 p:Gz B0 (B0+1+1+1+1) (B0+1+1+1+1+1) W W'
def iE.below (h:iE B0 w W W') (c:w.heap.size=B0) (i:B0+6<=W.heap.size) (a:bW W' W''):iE B0 w W W'':=by
 have g:=h.k.size;refine⟨h.b.trans (a.mono h.b.size),⟨k9 h.k.size a.size,λk o d e f=>?_⟩,h.p.1.trans (a.mono (by omega)),(a.block _ (by omega)).trans h.p.2.1,(a.block _ (by omega)).trans h.p.2.2⟩;have:=h.k.same k o d e f;exact(a.block k (aq this)).trans this
def iE.set (h:iE B0 w W W') (c:w.heap.size=B0) {b:Nat} (a:B0<=b) (bd:b<B0+4) (j:Nat) (v:Value):iE B0 w W (W'.setCell ⟨b,j,none⟩ v):=by
 refine⟨h.b.setCell (p:=⟨b,j,none⟩) (by rw [c];exact a) v,h.k.trans ((KeepsOthers.setCell _ _ _).from _),h.p.1.setCell (p:=⟨b,j,none⟩) a v,?_,?_⟩
 .exact(Below.heap_setCell W' ⟨b,j,none⟩ v _ (by show _≠b;omega)).trans h.p.2.1
 .exact(Below.heap_setCell W' ⟨b,j,none⟩ v _ (by show _≠b;omega)).trans h.p.2.2
def iE.start (a:bW w W):iE B0 w W W:=⟨a,KeepsFrom.refl _ _,Gz.refl _ _ _ _⟩
def iE.grown {row:Option Nat} (h:iE B0 w W W') (m:w.heap.size=B0) (q:B0+6<=W.heap.size) (a:W'.grownBy W'' row) (c:∀r,row=some r->B0+6<=r/\∃cur t,W'.heap[r]? =some (.cells cur t (0,0))):iE B0 w W W'':=by
 have l:=h.k.size;have dM:∀k,k<B0+6->some k≠row:=λk n e=>by have:=(c k e.symm).1;omega
 refine⟨h.b.grown a h.b.size (λk e=>by have:=(c k e).1;omega),⟨k9 h.k.size a.size,λk o i j f=>?_⟩,h.p.1.grown a (by omega) (λk e=>by have:=(c k e).1;omega),(a.block _ (by omega) (dM _ (by omega))).trans h.p.2.1,(a.block _ (by omega) (dM _ (by omega))).trans h.p.2.2⟩;have d:=h.k.same k o i j f;refine(a.block k (aq d) (λe=>?_)).trans d;obtain⟨cur,t,g⟩:=(c k e.symm).2;rw [d] at g;cases g;cases f
def dR.low {B:Nat} (h:dR W B v rs X) (p:B'<=B) (j:∀k,X' k->X k):dR W B' v rs X':=by
 obtain⟨o,⟨d,b⟩,f⟩:=h;refine⟨o,⟨d,?_⟩,λi l=>?_⟩
 .rcases b with b|⟨g,a,cur,e,r,j6⟩
  .exact .inl b
  .exact .inr ⟨g,a,cur,e,by omega,j6⟩
 .obtain⟨g,c,e,m,q,n⟩:=f i l;exact⟨g,c,e,m,by omega,λh=>n (j _ h)⟩
def dR.xL {B:Nat} (h:dR W B v rs X) {b:Nat} (p:b<B) (j:Nat) (u:Value):dR (W.setCell ⟨b,j,none⟩ u) B v rs X:=by
 obtain⟨o,a,d⟩:=h;refine⟨o,dS a (λg l=>Below.heap_setCell W ⟨b,j,none⟩ u g (by have:=jv a l;show g≠b;omega)),λi m=>?_⟩;obtain⟨g,c,e,⟨cur,k,j6⟩,f,n⟩:=d i m;exact⟨g,c,e,⟨cur,(Below.heap_setCell W ⟨b,j,none⟩ u g (by show g≠b;omega)).trans k,j6⟩,f,n⟩
def Own.xL {B:Nat} (h:Own W B v l) {b:Nat} (c:b<B) (j:Nat) (u:Value):Own (W.setCell ⟨b,j,none⟩ u) B v l:=
 dS h (λg a=>Below.heap_setCell W ⟨b,j,none⟩ u g (by have:=jv h a;show g≠b;omega))
def b9 {b:Nat} {u:Value} {o:Obj} (h:W.heap[c]? =some o) (dM:c≠b):(W.setCell ⟨b,j,none⟩ u).heap[c]? =some o:=(Below.heap_setCell W ⟨b,j,none⟩ u c dM).trans h
def jy.more {B:Nat} {a:SS} (h:jy W B0 B E a vR vr)
    (q:w2.ownsRow B 5 1 (.slice (some (aD g 0)) (a.rc.length+d.length) cap) (a.rc.length+d.length) (bs a.rc ++ bs d)) (p:W.grownBy w2 vr.ownBlock) (it:vr.ownBlock=some g\/g=W.heap.size) (J:Int) (o:J=((a.j+1:Nat):Int)):
  jy ((w2.setCell ⟨B0+1,0,none⟩ (.slice (some ⟨g,0,none⟩) (a.rc.length+d.length) cap)).setCell ⟨B0+3,2,none⟩ (.int .i64 J)) B0 B E {a with rc:=a.rc ++ d,j:=a.j+1} vR (.slice (some (aD g 0)) (a.rc.length+d.length) cap):=by
 subst o;have oo:=h.lo;obtain⟨e,f,i,l,m,n⟩:=h.grow q p it;refine⟨b9 (b9 e (by omega)) (by omega),b9 ((heap_setCell_same _ _ 0 _ _ _ f).trans (by simp)) (by omega),b9 (b9 i (by omega)) (by omega),?_,?_,?_,oo⟩
 .have:=heap_setCell_same _ _ 2 _ _ (iV ((a.j+1:Nat):Int)) (b9 (b:=B0+1) (j:=0) (u:= .slice (some (aD g 0)) (a.rc.length+d.length) cap) (l.trans h.d) (by omega));exact this.trans (by simp)
 .refine((m.xL (b:=B0+1) (by omega) 0 _).xL (b:=B0+3) (by omega) 2 _).low (bR _) (λk c=>?_);simp [Value.ownBlock] at c;exact c.symm
 .exact(n.xL (by omega) 0 _).xL (by omega) 2 _
def jy.whole {B:Nat} {a:SS} (h:jy W B0 B E a vR vr)
    (H:w2.ownsRow B 5 1 (.slice (some (aD g 0)) (a.rc.length+d.length) cap) (a.rc.length+d.length) (bs a.rc ++ bs d)) (p:W.grownBy w2 vr.ownBlock) (it:vr.ownBlock=some g\/g=W.heap.size) (R:B<=W.heap.size)
    (be:w2.ownsRow B 36 1 vR a.rs.length vs) (Jk:∀i (t:i<a.rs.length),∃g c,vs[i]? =some (.slice (some (aD g 0)) (a.rs[i]).length c)/\ay w2 5 g c (bs a.rs[i])/\B<=g)
    (uj:w3.ownsRow B 36 1 (.slice (some (aD g' 0)) (a.rs.length+1) Ru) (a.rs.length+1) (vs ++ [.slice (some (aD g 0)) (a.rc.length+d.length) cap])) (xC:0<d.length) (o:Obj) (Fv:(w2.alloc o).grownBy w3 vR.ownBlock) (P:Nat) (Q:Int) (F:Q=(P:Int)):
  jy ((((w3.setCell ⟨B0,0,none⟩ (.slice (some ⟨g',0,none⟩) (a.rs.length+1) Ru)).setCell ⟨B0+1,0,none⟩ (.slice none 0 0)).setCell ⟨B0+2,0,none⟩ (.int .i64 Q)).setCell ⟨B0+3,2,none⟩ (.int .i64 0)) B0 B E {a with rs:=a.rs ++ [a.rc ++ d],rc:= [],hd:=P,j:=0} (.slice (some (aD g' 0)) (a.rs.length+1) Ru) (.slice none 0 0):=by
 subst F;have oo:=h.lo;obtain⟨w,z,A,C,O,D⟩:=h.grow H p it;have dM:∀k,k<B->vR.ownBlock≠some k:=λk m e=>by have:=jv be e;omega
 have l:∀k q,k<B->w2.heap[k]? =some q->w3.heap[k]? =some q:=λk q m f=>(Fv.block k (by have:=aq f;simp;omega) (λe=>dM k m e.symm)).trans ((Below.heap_alloc _ _ _ (aq f)).trans f);have n:B<=g:=by
  rcases it with it|it
  .exact jv h.rc it
  .omega
 have mU:ay w2 5 g cap (bs (a.rc ++ d)):=by
  obtain⟨N,e,_,_,I⟩:=D.row (by simp;omega);cases e;exact I
 have f:a.rc.length+d.length=(a.rc ++ d).length:=by simp
 rw [f] at uj;have adh:=CW (W:=w2.alloc o) (W':=w3) (r:=a.rc ++ d) (dS be (λg p=>by
   obtain⟨cur,G⟩:=bB be p;exact Below.heap_alloc _ _ _ (aq G))) (λi t=>by
   obtain⟨x,y,u,s,v⟩:=Jk i t;exact⟨x,y,u,s.agree (Below.heap_alloc _ _ _ s.lt),v⟩) (mU.agree (Below.heap_alloc _ _ _ mU.lt)) n uj Fv
 have J:=l _ _ (by omega) w;have K:=l _ _ (by omega) z;have L:=l _ _ (by omega) A;have M:=l _ _ (by omega) (C.trans h.d);refine⟨?_,?_,?_,?_,?_,Own.nil _ _,oo⟩
 .exact b9 (b9 (b9 ((heap_setCell_same _ _ 0 _ _ _ J).trans (by simp)) (by omega)) (by omega)) (by omega)
 .exact b9 (b9 ((heap_setCell_same _ _ 0 _ _ _ (b9 K (by omega))).trans (by simp)) (by omega)) (by omega)
 .exact b9 ((heap_setCell_same _ _ 0 _ _ _ (b9 (b9 L (by omega)) (by omega))).trans (by simp)) (by omega)
 .exact(heap_setCell_same _ _ 2 _ _ _ (b9 (b9 (b9 M (by omega)) (by omega)) (by omega))).trans (by simp)
 .exact((((adh.xL (b:=B0) (by omega) 0 _).xL (b:=B0+1) (by omega) 0 _).xL (b:=B0+2) (by omega) 0 _).xL (b:=B0+3) (by omega) 2 _).low (bR _) (λk m=>by simp [Value.ownBlock] at m)
section
def uk (ops:Array Oper):Bool:=ops.all λo=>match o.op with| .defer _=>false|_=>true
def Ej {a:Array Oper} (h:uk a=true) {o:Oper} (b:a[i]? =some o):∀c,o.op≠ .defer c:=by
 intro c e;have:=Array.all_eq_true_iff_forall_mem.1 h o (Array.mem_of_getElem? b);rw [e] at this;cases this
section
variable {P:Program} {ops:Array Oper} {Q:Exit->Act->World->Prop} {l n:Nat}
def NT {row:String} {R:Value->World->Prop} (h:Rows P row args w R):RowsIn (Fence.wide.inRound l) n P row args w R:=λc cs _=>by
 obtain⟨v,w',a,b⟩:=h c cs;exact⟨v,w',a,stepsIn_wide.2 b⟩
def zJ {o:Oper} {a:Act} {K:Act->World->Prop} (PH:∀c,o.op≠ .defer c) (h:o.wp P a w K Q):o.wpIn (Fence.wide.inRound l) n P a w K Q:=by
 unfold Oper.wpIn;refine⟨λ_ _=>trivial,?_⟩;rw [Oper.semAt_eq _ _ _ PH];unfold Oper.wp at h;generalize (execOp a.eval o).run P w=r at*;cases r with
 |ok x w'=>
  cases x <;> simp only [Oper.upon,Oper.uponIn] at h⊢<;>
   first
    |exact h
    |exact⟨λh=>(by cases h),CallsIn.inRound l (callsIn_wide.2 h)⟩
    |exact⟨λh=>(by cases h),NT h⟩
    |exact h.elim
 |halt x w'=>cases x <;> simp only [Oper.upon,Oper.uponIn] at h⊢<;> exact h
def NU {a:Act} {K:Act->World->Prop} (hd:uk ops=true) (d:¬LetsOut Q) (h:wpOp P ops Q i K a w):wpOpIn (Fence.wide.inRound l) n P ops Q i K a w:=by
 unfold wpOp at h;unfold wpOpIn;cases b:ops[i]? with
 |none=>simp only [b] at h;exact h
 |some o=>
  simp only [b] at h⊢;split
  .rename_i c;simp only [c,if_true] at h;rcases h with h|h
   .exact zJ (Ej hd b) h
   .exact absurd h.2 d
  .rename_i c;simp only [c] at h;exact⟨λ_ _=>trivial,h⟩
def sN {d:Region.Mode} (hd:uk ops=true) (c:¬LetsOut Q):∀(b:Nat) (Rv:Array Bool) (a:Act) (w:World),wpAny P d ops Q b Rv a w->wpAnyIn (Fence.wide.inRound l) n P d ops Q b Rv a w
 |0,_,_,_,h=>h
 |b+1,_listed,_a,_w,h=>⟨h.1,λi e=>wpOpIn_mono (λa w h=>sN hd c b _ a w h) (NU hd c (h.2 i e))⟩
def nO {a:Act} {K:Act->World->Prop} {S:World->Prop} (b:P.follows .mixedOrders=true) (hd:uk ops=true) (h:wpAnyH P .any ops (Exit.then K (λ_ _ _=>False)) S ops.size (Array.replicate ops.size false) a w.drew):
    (Code.region id ops true).wpIn (Fence.wide.inRound l) n P (Exit.then K Q) a w:=
 wpIn_mono (wpIn_region_any b (sN hd (λ⟨_,_,h⟩=>h) _ _ _ _ (wpAny_of_held _ _ _ _ h))) (λe a w h=>by cases e <;> first|exact h|exact h.elim)
def eC {o:Oper} {a:Act} {K:Act->World->Prop} (s x:Operand) (t:TypeId) (b:o.op= .call {callee:= .builtin .append,args:= #[s,x],argTypes:= #[t,t]}) (v u r:Value) (d:a.eval s=v) (e:a.eval x=u)
    (c:(Builtin.append_ #[t,t] o.type #[v,u]).run P w= .ok r w') (h:K (a.put o.dst r) w'):o.wp P a w K Q:=by
 unfold Oper.wp execOp;simp only [b,resolve,invoke,builtin,Sem.run_bind,Sem.run_pure,Result.andThen_ok,List.map_toArray,List.map_cons,List.map_nil,d,e,c];exact h
def rM {o:Oper} {rest:List Oper} {a:Act} (f:o.guard=none) (s x:Operand) (t:TypeId) (b:o.op= .call {callee:= .builtin .append,args:= #[s,x],argTypes:= #[t,t]}) (v u r:Value) (i:a.eval s=v) (j:a.eval x=u)
    (g:(Builtin.append_ #[t,t] o.type #[v,u]).run P w= .ok r w') (h:wpListIn (Fence.wide.inRound l) n P ops Q rest (a.put o.dst r) w'):wpListIn (Fence.wide.inRound l) n P ops Q (o :: rest) a w:=
 wpListIn_plain f λ_ d=>zJ (by rw [b];intro c e;cases e) (eC s x t b v u r i j g (d _ _ h))
end
end
end Go.Proofs.YtcpdggdfihjhoaaGreat
