import Derived.Test.YtcpdggdfihjhoabGreatW01
import Derived.Test.YtcpdggdfihjhoabGreatW02
import Derived.Shelf.Sort.AssemblyIn
import Derived.Sort.EveryDepth
import Derived.Sort.OwnSortedInts
import Derived.ProofKit
import Derived.OpenShut
import Derived.ShutString
import Derived.ChangeOld
import Derived.SizedLaws
import Derived.Deep.Slices
import Derived.Deep.Light
import Derived.Deep.MidRow
import Derived.Deep.Quiet
import Derived.BigQuiet
import Derived.OwnWalk
import Derived.RegionTactic
import Derived.BigRegion
import Derived.Deep.RegionLaw
import Derived.ChangeKeysEq
import Derived.ArgAppend
set_option maxRecDepth 20000
set_option maxHeartbeats 8000000
set_option linter.all false
namespace Go.Proofs.YtcpdggdfihjhoabGreat
open Go.Proofs.Tryz
open Go.RowKit Go.Maps
variable {cur:Array Value} {S:DS} {a body data l l' s xs:List Int} {c g i k n p:Nat} {F:Nat->Prop} {T e ty:TypeId} {v x y z:Value} {w w':World} {C:World->Prop}
section
open Go.RowKit Go.Maps Go.Shelf Go.Sort
def wc:yE:=by
 intro g b zs w f eE;have c:=f.le;have Y7:=f;obtain⟨cur,i,m,j,p⟩:=Y7;have d:(zs.map (Value.int .i64)).length=zs.length:=by simp
 rw [d] at c j;have l:=holds_of_blockI i j;refine(calls_of_every_depth λD=>AnyS.slices_Sort_int_in Tryz.lays189 D g 0 b zs w l f.lt eE).mono ?_;rintro e w' ⟨rfl,n,os,rfl⟩;have q:(zs.mergeSort λx y=>decide (x<=y)).length=zs.length:=List.length_mergeSort _;have a:=grownBy_sortedI (w:=w) (g:=g) (n:=n) (os:=os) (zs.mergeSort λx y=>decide (x<=y)).toArray;refine⟨rfl,⟨_,heap_sortedI _ i,by simp [putCells,m],?_,p⟩,⟨a.os,a.tape,a.output,a.size,λk o dM=>a.block k o (by simpa using dM)⟩⟩;rw [List.length_map];exact take_putCellsI cur _ (by omega)
def U7 (w:World):Calls prog 199 #[.slice none 0 0,iV 0,iV 0] w λe w'=>e= .returned (.tuple #[])/\w'=w:=by
 go_in;go_wp2;refine wp_loop_rounds 1 ?_;rw [rounds_succ];go_wp2
 go_end0
 exact⟨rfl,rfl⟩
def U8 (n:Int) (w:World):Calls prog 166 #[.slice none 0 0,iV 0,iV 0,iV n] w λe w'=>e= .returned (.tuple #[])/\w'=w:=by
 go_in;go_wp2;refine wp_loop_rounds 1 ?_;rw [rounds_succ];go_wp2_with (go_at_call 199;refine(U7 _).mono ?_;rintro e w' ⟨rfl,rfl⟩);exact bodyPost_ret (results_none rfl _ _ _) rfl ⟨rfl,rfl⟩
def wd:Dx:=by
 intro w;go_in;go_wp2_with (first|(go_at_call 166;refine(U8 _ _).mono ?_;rintro e w' ⟨rfl,rfl⟩)|go_in)
 go_end0
 exact⟨rfl,RowKit.Below.refl _ _⟩
end
def DS.wr (S:DS) (s:Nat) (x:Int) (n:Nat) (l:List Int):Int×DS:=
 if S.fuse=0 then (3,S) else if x<0\/(s:Int)<=x then (11,S.refuse) else if n≠512 then (2,S.refuse) else (0,(S.put x.toNat l).wrote.gq)
def DS.rd (S:DS) (s:Nat) (x:Int):Int×DS×List Int:=
 if S.fuse=0 then (3,S, []) else if x<0\/(s:Int)<=x then (11,S.refuse, []) else (0,S.read,S.now x.toNat)
def DS.fl (S:DS) (s:Nat):Int×DS:=if S.fuse=0 then (3,S) else (0,(S.flush s).gq)
def aQ.more {s:Nat} (h:aQ w' F p s S):aQ w' (more F w w') p s S:=
 h.mono (λ_ a=> .inl a) (λk a=>by rcases a with a|a;exact h.lt k a;exact a.2)
def vd {s:Nat} (h:aQ w F p s S) (x:Int) (a:Option Addr) (n c:Nat) (l:List Int) (m:Src w a n l) (aU:S.puts.length+1<=4000000000000):
  Calls prog 40 #[pQ p,iV x, .slice a n c] w λe w'=>e= .returned (iV (S.wr s x n l).1)/\aQ w' (more F w w') p s (S.wr s x n l).2/\aa F w w':=by
 by_cases b:S.fuse=0
 .simp only [DS.wr,b,if_true];refine(Jm h x a n c b).mono ?_;rintro e w' ⟨rfl,rfl⟩;exact⟨rfl,h.more,aa.refl _ _⟩
 .by_cases d:x<0\/(s:Int)<=x
  .simp only [DS.wr,b,if_false,d,if_true];refine(FD h x a n c b d).mono ?_;rintro e w' ⟨rfl,f,g⟩;exact⟨rfl,f.more,g⟩
  .obtain⟨k,rfl⟩:∃k:Nat,x=(k:Int):=⟨x.toNat,by omega⟩;have j:k<s:=(by omega);by_cases i:n=512
   .subst i;simp only [DS.wr,b,if_false,d,ne_eq,not_true_eq_false,Int.toNat_natCast];obtain⟨y,rfl⟩:∃y,a=some y:=by
     cases a with
     |none=>have:=m.2.1 rfl;omega
     |some y=>exact⟨y,rfl⟩
    exact P6 h k j b (by omega) y c l m
   .simp only [DS.wr,b,if_false,d,ne_eq,i,not_false_eq_true,if_true];refine(Du h k a n c b j i).mono ?_;rintro e w' ⟨rfl,f,g⟩;exact⟨rfl,f.more,g⟩
def Out (lo:Nat) (w:World) (l:List Int) (v:Value):Prop:=∃a c,v= .slice a l.length c/\Src w a l.length l/\∀x,a=some x->lo<=x.block
def Out.nil (lo:Nat) (w:World):Out lo w [] (.slice none 0 0):=⟨none,0,rfl,⟨rfl,λ_=>rfl,λx a=>by cases a⟩,λx a=>by cases a⟩
def Out.row {lo:Nat} (h:ay w 5 g c (bs l)) (a:lo<=g):Out lo w l (.slice (some (aD g 0)) l.length c):=⟨_,c,rfl,h.src,λx b=>by cases b;exact a⟩
def tD {s:Nat} (h:aQ w F p s S) (x:Int) (aU:S.puts.length+1<=4000000000000):
  Calls prog 68 #[pQ p,iV x] w λe w'=>∃v,e= .returned (.tuple #[v,iV (S.rd s x).1])/\Out w.heap.size w' (S.rd s x).2.2 v/\aQ w' F p s (S.rd s x).2.1/\aa F w w':=by
 by_cases a:S.fuse=0
 .simp only [DS.rd,a,if_true];refine(B8 h x a).mono ?_;rintro e w' ⟨rfl,rfl⟩;exact⟨_,rfl,Out.nil _ _,h,aa.refl _ _⟩
 .by_cases f:x<0\/(s:Int)<=x
  .simp only [DS.rd,a,if_false,f,if_true];refine(Ji h x a f).mono ?_;rintro e w' ⟨rfl,b,d⟩;exact⟨_,rfl,Out.nil _ _,b,d⟩
  .obtain⟨k,rfl⟩:∃k:Nat,x=(k:Int):=⟨x.toNat,by omega⟩;have i:k<s:=(by omega);simp only [DS.rd,a,if_false,f,Int.toNat_natCast];refine(LQ h k a i (by omega)).mono ?_;rintro e w' ⟨g,c,rfl,j,l,b,d⟩;have:=Out.row l j;rw [bu h.ok k i] at this;exact⟨_,rfl,this,b,d⟩
def Dl {s:Nat} (h:aQ w F p s S) (aU:S.puts.length+1<=4000000000000):
  Calls prog 41 #[pQ p] w λe w'=>e= .returned (iV (S.fl s).1)/\aQ w' F p s (S.fl s).2/\aa F w w':=by
 by_cases a:S.fuse=0
 .simp only [DS.fl,a,if_true];refine(LF h a).mono ?_;rintro e w' ⟨rfl,rfl⟩;exact⟨rfl,h,aa.refl _ _⟩
 .simp only [DS.fl,a,if_false];exact Ub h a (by omega)
def Src.lQ {B:Nat} {a:Option Addr} (h:Src w a n l) (d:Below B w w') (c:∀x,a=some x->0<n->x.block<B):Src w' a n l:=
   ⟨h.1,h.2.1,λx b i e=>(World.cell?_of_block (w:=w) (by rw [kD];exact d.block _ (c x b (by omega)))).trans (h.2.2 x b i e)⟩
def kX.lQ {B:Nat} {a:Option Addr} {l:List P3} (h:kX w a n l) (k:Below B w w') (j:∀x,a=some x->0<n->x.block<B):kX w' a n l:=by
 refine⟨h.1,h.2.1,λx c i m=>?_,h.2.2.2⟩;obtain⟨b,o,rfl,d,f,g⟩:=h.2.2.1 x c i m;have e:=k.block b (j _ c (by have:=h.1;omega));exact⟨b,o,rfl,(World.cell?_of_block (w:=w) (a:=(aD b _)) e).trans d,(World.cell?_of_block (w:=w) (a:=(aD b _)) e).trans f,(World.cell?_of_block (w:=w) (a:=(aD b _)) e).trans g⟩
def Out.keeps {lo:Nat} (h:Out lo w l v) (o:aa F w w') (j:∀k,F k->k<lo):Out lo w' l v:=by
 obtain⟨a,c,rfl,b,f⟩:=h;refine⟨a,c,rfl,⟨b.1,b.2.1,λx g i n=>?_⟩,f⟩;have d:=b.2.2 x g i n;have e:=World.block_lt_of_cell? _ _ d;rw [kD] at e;exact(World.cell?_of_block (w:=w) (by rw [kD];exact o.block _ e (λm=>by have:=j _ m;have:=f x g;omega))).trans d
def jh (S:DS) (s:Nat) (x:Int) (n:Nat) (l:List Int):(S.wr s x n l).2.puts.length<=S.puts.length+1:=by
 unfold DS.wr;split
 .simp
 .split
  .simp [DS.refuse]
  .split
   .simp [DS.refuse]
   .simp [DS.put,DS.wrote,DS.gq]
def yr (S:DS) (s:Nat):(S.fl s).2.puts.length<=S.puts.length+1:=by
 unfold DS.fl;split
 .simp
 .simp [DS.flush,DS.gq]
def aJ (w:World) (o:Obj):bW w (w.alloc o):=(bi _ _).alloc (bS _) _
def nC (body:List Int):List Int:=((body.length%256:Nat):Int) :: ((body.length / 256:Nat):Int) :: (body ++ List.replicate (504-body.length) 0)
def bh (t:Int) (body:List Int):List Int:=
 t :: ((body.length%256:Nat):Int) :: ((body.length / 256:Nat):Int) :: (nZ (sumOf (nC body)) ++ (body ++ (List.replicate (504-body.length) 0 ++ [t])))
def cG (a b:Int):Nat:=if a≠0/\b≠0 then 0 else if a≠1/\b≠1 then 1 else 2
def gu (a b:Int):cG a b<=2:=by unfold cG;split <;> (try split) <;> omega
def Cj (a b:Int):((cG a b:Nat):Int)≠a/\((cG a b:Nat):Int)≠b:=by
 unfold cG;by_cases h:a≠0/\b≠0
 .rw [aG h];omega
 .rw [aB h];by_cases c:a≠1/\b≠1
  .rw [aG c];omega
  .rw [aB c];omega
def oh (s:Nat):(nZ s).length=4:=rfl
def DC (s:Nat):Bytes (nZ s):=by
 intro x a;simp only [nZ,List.mem_cons,List.not_mem_nil,or_false] at a;omega
def fv {t:Int} (h:body.length<=504):(bh t body).length=512:=by simp [bh,oh];omega
def Bytes.append {b:List Int} (c:Bytes a) (d:Bytes b):Bytes (a ++ b):=λx e=>(List.mem_append.1 e).elim (c x) (d x)
def Bytes.cons {a:Int} {b:List Int} (c:0<=a/\a<256) (d:Bytes b):Bytes (a :: b):=λx e=>(List.mem_cons.1 e).elim (λh=>h▸c) (d x)
def Bytes.nil:Bytes []:=λ_ a=>by cases a
def Bytes.tE (n:Nat):Bytes (List.replicate n 0):=λx a=>by rw [List.eq_of_mem_replicate a];omega
def Bytes.take (h:Bytes l) (n:Nat):Bytes (l.take n):=λx a=>h x (List.mem_of_mem_take a)
def Bytes.drop (h:Bytes l) (n:Nat):Bytes (l.drop n):=λx a=>h x (List.mem_of_mem_drop a)
def Bytes.getD (h:Bytes l) (i:Nat):0<=l.getD i 0/\l.getD i 0<256:=by
 by_cases a:i<l.length
 .have:=h l[i] (List.getElem_mem a);simpa [List.getD,a] using this
 .simp [List.getD,List.getElem?_eq_none (Nat.le_of_not_lt a)]
def we (h:Bytes body) (a:body.length<=504):Bytes (nC body):=
   .cons (by omega) (.cons (by omega) (h.append (.tE _)))
def wg {t:Int} (h:Bytes body) (b:body.length<=504) (a:0<=t/\t<256):Bytes (bh t body):=
   .cons a (.cons (by omega) (.cons (by omega) ((DC _).append (h.append ((Bytes.tE _).append (.cons a .nil))))))
def dN (s:List Int):Nat:=(s.getD 1 0+256*s.getD 2 0).toNat
def dJ (s:List Int):List Int:=(s.drop 7).take (dN s)
def fA (s:List Int):Option (List Int):=if dN s<=504/\s.getD 0 0<=2/\bh (s.getD 0 0) (dJ s)=s then some (dJ s) else none
def Cl (t:Int) (body:List Int) (h:body.length<=504):dN (bh t body)=body.length:=by
 simp [dN,bh,List.getD];omega
def Jr (t:Int) (body:List Int):(bh t body).drop 7=body ++ (List.replicate (504-body.length) 0 ++ [t]):=by
 simp [bh,nZ]
def Js (t:Int) (body:List Int) (h:body.length<=504):dJ (bh t body)=body:=by
 rw [dJ,Cl t body h,Jr];simp
def pG (t:Int) (body:List Int):(bh t body).getD 0 0=t:=rfl
def yL (t:Int) (body:List Int) (h:body.length<=504):(bh t body).getD 511 0=t:=by
 have e:bh t body=(t :: ((body.length%256:Nat):Int) :: ((body.length / 256:Nat):Int) :: (nZ (sumOf (nC body)) ++ (body ++ List.replicate (504-body.length) 0))) ++ [t]:=by
  simp [bh]
 rw [e,List.getD,List.getElem?_append_right (by simp [oh];omega)];have:511-(t :: ((body.length%256:Nat):Int) :: ((body.length / 256:Nat):Int) :: (nZ (sumOf (nC body)) ++ (body ++ List.replicate (504-body.length) 0))).length=0:=by
  simp [oh];omega
 rw [this];rfl
def Jt (t:Int) (body:List Int) (h:body.length<=504) (a:t<=2):fA (bh t body)=some body:=by
 unfold fA;rw [Cl t body h,pG,Js t body h,aG ⟨h,a,rfl⟩]
def oj (h:fA s=some body):dN s<=504/\s.getD 0 0<=2/\bh (s.getD 0 0) (dJ s)=s/\body=dJ s:=by
 unfold fA at h;split at h
 .next hc=>exact⟨hc.1,hc.2.1,hc.2.2,(Option.some.inj h).symm⟩
 .cases h
def lN (h:dN s<=504) (a:s.length=512):(dJ s).length=dN s:=by
 simp [dJ];omega
def qM (h:fA s=some body) (b:s.length=512):body.length<=504:=by
 obtain⟨a,_,_,rfl⟩:=oj h;rw [lN a b];exact a
def Ju (h:fA s=some body) (b:s.length=512):s.getD 511 0=s.getD 0 0:=by
 obtain⟨c,_,a,rfl⟩:=oj h;rw [<-a,yL _ _ (qM h b),pG]
def xO (s:List Int):List Int:=(s.drop 1).take 2 ++ (s.drop 7).take 504
def az (s:List Int):Nat×List Int:=
 match fA s with
 |none=>(0, [])
 |some body=>if 8<=body.length/\le (body.take 8)<9223372036854775808 then (le (body.take 8),body.drop 8) else (0, [])
def am (l r:List Int):Nat×Nat×List Int×Nat:=
 if l.length≠512\/r.length≠512 then (0,0, [],2) else
 if (az l).1=0/\(az r).1=0 then (0,0, [],30) else
 if (az l).1<(az r).1 then (1,(az r).1,(az r).2,0) else (0,(az l).1,(az l).2,0)
def aS (n:Nat):List Int:=(List.range 8).map (λk=>((n / 256 ^ k%256:Nat):Int))
def gv (old body:List Int):List Int×Nat:=
 if old.length≠512 then ([],2) else if 504<body.length then ([],7) else (bh (cG (old.getD 0 0) (old.getD 511 0)) body,0)
def aX (s:List Int):List Int×Nat:=
 if s.length≠512 then ([],2) else match fA s with|none=>([],30)|some b=>(b,0)
def aP (l r:List Int) (number:Int) (data:List Int):Nat×List Int×Nat:=
 if l.length≠512\/r.length≠512 then (0, [],2) else
 if number<1 then (0, [],1) else
 if 496<data.length then (0, [],7) else
 let a:=am l r
 if number<=a.2.1 then (0, [],31) else
 if a.2.2.2=0/\a.1=0 then (1,bh (cG (r.getD 0 0) (r.getD 511 0)) (aS number.toNat ++ data),0)
 else (0,bh (cG (l.getD 0 0) (l.getD 511 0)) (aS number.toNat ++ data),0)
def U9:Nat->Nat->Bool
 |0,_=>true
 |n+1,s=>if cb s=1 then false else U9 n (cb s)
def Cn:∀(n s:Nat),U9 n s=true->∀a,a<n->kV (a+1) s≠1
 |0,_,_,a,ha=>by omega
 |n+1,s,h,a,ha=>by
  unfold U9 at h;split at h
  .cases h
  .next hc=>
   cases a with
   |zero=>exact hc
   |succ a=>exact Cn n (cb s) h a (by omega)
def order {a:Nat} (h0:0<a) (b:a<=4080):kV a 1≠1:=by
 have h:U9 4080 1=true:=by decide+kernel
 have:=Cn 4080 1 h (a-1) (by omega);rwa [show a-1+1=a by omega] at this
def Va {α:Type} {o:Option α} (h:∀x,o=some x->False):o=none:=by
 cases o with
 |none=>rfl
 |some x=>exact(h x rfl).elim
def Co {m:List Int} (b:m.length=512) (h:m.getD 0 0≠m.getD 511 0):fA m=none:=
 Va λ_ a=>h (Ju a b).symm
def rA (a b:List Int) (c:Nat):List Int:=a.take c ++ b.drop c
def FJ {b:List Int} (d:a.length=512) (e:b.length=512) (f:c<=512):(rA a b c).length=512:=by simp [rA];omega
def yM {b:List Int} (d:a.length=512) (h0:0<c):(rA a b c).getD 0 0=a.getD 0 0:=by
 rw [rA,List.getD,List.getElem?_append_left (by simp;omega),List.getElem?_take,aG h0];rfl
def Cp {b:List Int} (d:a.length=512) (e:c<512):(rA a b c).getD 511 0=b.getD 511 0:=by
 rw [rA,List.getD,List.getElem?_append_right (by simp;omega),List.getElem?_drop];simp only [List.length_take,d,List.getD];rw [show c+(511-min c 512)=511 by omega]
def Cq (a b:List Int):rA a b 0=b:=by simp [rA]
def FK {b:List Int} (c:a.length=512) (d:b.length=512):rA a b 512=a:=by
 simp [rA,nr (Nat.le_of_eq c),List.drop_eq_nil_of_le (Nat.le_of_eq d)]
def an8 {o:List Int} (b:o.length=512) {t:Int} (h0:t≠o.getD 0 0) (i:t≠o.getD 511 0) (e:body.length<=504) (d:c<=512):
    (rA o (bh t body) c=o\/rA o (bh t body) c=bh t body\/fA (rA o (bh t body) c)=none)/\
    (rA (bh t body) o c=o\/rA (bh t body) o c=bh t body\/fA (rA (bh t body) o c)=none):=by
 have a:=fv (t:=t) e;by_cases f:c=0
 .subst f;exact⟨.inr (.inl (Cq _ _)), .inl (Cq _ _)⟩
 .by_cases g:c=512
  .subst g;exact⟨.inl (FK b a), .inr (.inl (FK a b))⟩
  .refine⟨.inr (.inr (Co (FJ b a d) ?_)), .inr (.inr (Co (FJ a b d) ?_))⟩
   .rw [yM b (by omega),Cp b (by omega),yL t body e];exact λh=>h0 h.symm
   .rw [yM a (by omega),Cp a (by omega),pG];exact i
def Cr (n:Nat):aS n= [((n%256:Nat):Int),((n / 256%256:Nat):Int),((n / 65536%256:Nat):Int),((n / 16777216%256:Nat):Int),((n / 4294967296%256:Nat):Int),((n / 1099511627776%256:Nat):Int),((n / 281474976710656%256:Nat):Int),((n / 72057594037927936%256:Nat):Int)]:=by
 simp [aS,List.range,List.range.loop]
def dO (n:Nat):(aS n).length=8:=by simp [aS]
def iO (n:Nat):Bytes (aS n):=by
 intro x a;obtain⟨j,_,rfl⟩:=List.mem_map.1 a;omega
def M4 (h:n<18446744073709551616):le (aS n)=n:=by
 rw [Cr];simp only [le,Int.toNat_natCast];omega
def DD {t:Int} (c:t<=2) (b:n<9223372036854775808) (hd:data.length<=496):az (bh t (aS n ++ data))=(n,data):=by
 have a:=dO n;unfold az;rw [Jt _ _ (by simp [a];omega) c];simp only [List.take_left' a,List.drop_left' a,M4 (show n<18446744073709551616 by omega)];rw [aG ⟨by simp [a],b⟩]
def yN (l r:List Int) (slot:Nat) (s:List Int):List Int×List Int:=if slot=0 then (s,r) else (l,s)
def tF {r:List Int} (j:l.length=512) (k:r.length=512) (d:n<9223372036854775808) (g:1<=n) (hd:data.length<=496) (uQ:(am l r).2.1<n) {t:Int} (f:t<=2) (a:Nat)
    (b:a=if (am l r).2.2.2=0/\(am l r).1=0 then 1 else 0):
  am (yN l r a (bh t (aS n ++ data))).1 (yN l r a (bh t (aS n ++ data))).2=(a,n,data,0):=by
 have c:=DD f d hd;have i:(bh t (aS n ++ data)).length=512:=fv (by simp [dO];omega);generalize bh t (aS n ++ data)=s at*;have e:am l r=if (az l).1=0/\(az r).1=0 then (0,0, [],30) else if (az l).1<(az r).1 then (1,(az r).1,(az r).2,0) else (0,(az l).1,(az l).2,0):=by
  unfold am;rw [aB (by omega)]
 rw [e] at b uQ;by_cases z:(az l).1=0/\(az r).1=0
 .rw [aG z] at b uQ;have:a=0:=by rw [b];rfl
  subst this;simp only [yN,if_true,am];rw [aB (by omega),c,aB (by simp;omega),aB (by simp;omega)]
 .rw [aB z] at b uQ;by_cases q:(az l).1<(az r).1
  .rw [aG q] at b uQ;have:a=0:=(by rw [b];rfl);subst this;simp only [yN,if_true,am];rw [aB (by omega),c,aB (by simp;omega),aB (by simp at uQ⊢;omega)]
  .rw [aB q] at b uQ;have:a=1:=(by rw [b];rfl);subst this;have Y8:¬(1:Nat)=0:=(by omega);simp only [yN,aB Y8,am];rw [aB (by omega),c,aB (by simp;omega),aG (by simp at uQ⊢;omega)]
section
open Go.ChangeShapes Go.WideShapes Go.ChangeAt Go.RowKit Go.Deep
def yO:ownKnob prog.godebug=none:=by kernel_rfl
def laidOut:laidOutB prog=true:=by kernel_rfl
def Vb:prog.bytesOf 5=1:=by kernel_rfl
def Vc:prog.cellsOf 5=1:=by kernel_rfl
def fT:prog.cellsOf 3=1:=by kernel_rfl
def yP:prog.cellsOf 22=1:=by kernel_rfl
def acx {n:Int} (h:(Lit.int .u8 n).wf=true):0<=n/\n<256:=by
 have:=h;simp [Lit.wf,IntKind.min,IntKind.max,IntKind.bits,IntKind.signed] at this;omega
section
variable {H:Type} {enc:TypeId×Value->H} {W:World} {base:Nat} {spare:Nat->Bool} {held:Bool}
def pH {P:Program} {e:TypeId} {n:Nat}:∀{a:List (DataW H)} {d:DataW H},d∈a->n∈d.weights P e->n∈DataW.weightsAll P e a
 |d :: r,d',hd,hn=>by
  rw [DataW.weightsAll];rcases List.mem_cons.1 hd with rfl|h
  .exact List.mem_append_left _ hn
  .exact List.mem_append_right _ (pH h hn)
def Xx {P:Program} {b c d:Field} {cs:List Value} {x:DataW H×List MemPlace} (r:P.underlying e=some (.struct #[b,c,d])) (q:P.cellsOf e=3) (s:b.offset=0) (t:c.offset=1) (u:d.offset=2)
    (m:P.cellsOf b.type=1) (o:P.cellsOf c.type=1) (p:P.cellsOf d.type=1) (h:DataW.trod enc P W base spare held n e cs=some x):
  ∃v0 v1 v2 y0 y1 y2 k,cs= [v0,v1,v2]/\x.1= .agg [y0.1,y1.1,y2.1]/\DataW.trod enc P W base spare held k b.type [v0]=some y0/\DataW.trod enc P W base spare held k c.type [v1]=some y1/\DataW.trod enc P W base spare held k d.type [v2]=some y2:=by
 obtain⟨xs,k,_,g,a,IV,f⟩:=DataW.trod_struct r h;rw [q] at a
 match xs,IV,cs,a with
 | [y0,y1,y2],_, [v0,v1,v2],_=>
  have i:=f 0 b rfl;have j:=f 1 c rfl;have l:=f 2 d rfl;simp [s,t,u,m,o,p] at i j l;exact⟨v0,v1,v2,y0,y1,y2,k,rfl,by rw [g];rfl,i,j,l⟩
def om {b:Nat} {d:DataW H} {r:List MemPlace} (h:DataW.trod enc prog W base spare held b 22 [v]=some (d,r)) (o:∀n∈d.weights prog 22,n<=reachBytes):
  ∃a n c l,v= .slice a n c/\Src W a n l/\Bytes l/\n<=c/\n<=140737488355328:=by
 rcases open_ints underlying22 underlying5 Vc h with ⟨og,_⟩|⟨x,l,c,zs,og,_,m,s,g,hd,db,e⟩
 .simp only [List.cons.injEq,and_true] at og;exact⟨none,0,0, [],og,⟨rfl,λ_=>rfl,λx f=>by cases f⟩,(λx f=>by cases f),bS _,dV _⟩
 .simp only [List.cons.injEq,and_true] at og;simp only [Prod.mk.injEq] at hd;obtain⟨rfl,rfl⟩:=hd;have q:l<=zs.length:=by rw [g];split <;> omega
  have j:=o ((((lits IntKind.u8 (zs.take l):List (DataW H))).length+((lits IntKind.u8 (zs.drop l):List (DataW H))).length)*prog.bytesOf 5) (by simp [DataW.weights,underlying22]);rw [Vb] at j;simp only [lits,List.length_map,List.length_take,List.length_drop,reachBytes] at j;refine⟨some x,l,c,zs.take l,og,⟨by simp;omega,(λh=>by cases h),λy p i k=>?_⟩,λz g=>acx (e z (List.mem_of_mem_take g)),m,by omega⟩;cases p;rw [db i (by omega)];simp [List.getD,k]
end
end
def xP:List Value:=(List.range 16).map (λj=>Value.int .u32 ((kV 4 j:Nat):Int))
def DE:xP.length=16:=by simp [xP]
def Ve:∀v∈xP,v.oneCell'=true:=by
 intro v a;obtain⟨j,_,rfl⟩:=List.mem_map.1 a;rfl
def DF:(prog.info? 208).map (·.size)=some xP.length:=by rw [DE];kernel_rfl
def ahD (r:Nat) (a:r<4294967296):bits .and .u32 (r:Int) 1=((r%2:Nat):Int):=by
 have:=u32_and_nat r 1 a (by omega);rw [Nat.and_one_is_mod] at this;exact this
def Vf (r:Nat) (c:r<4294967296):bits .xor .u32 ((r:Int) / 2) (2197175160*((r:Int)%2))=((cb r:Nat):Int):=by
 have a:((r:Int) / 2)=((r / 2:Nat):Int):=by omega
 have b:(2197175160*((r:Int)%2))=(((if r%2=1 then 2197175160 else 0):Nat):Int):=by
  split <;> omega
 rw [a,b,u32_xor_nat _ _ (by omega) (by split <;> omega)];rfl
def aa.setCells {F:Nat->Prop} {b:Nat} (a:F b):∀(c:List Value) (o:Nat) (w:World),aa F w (w.setCells b o c)
 | [],_,w=>aa.refl F w
 |v :: r,o,w=>(aa.setCell (p:=⟨b,o,none⟩) w a v).trans (aa.setCells a r (o+1) _) (λ_ h=> .inl h)
def mQ {b:Nat}:∀(a:List Value) (o:Nat) (w:World),(w.setCells b o a).heap.size=w.heap.size
 | [],_,_=>rfl
 |v :: r,o,w=>by simp only [World.setCells];rw [mQ r];simp [World.setCell]
def gw {P:Program} {b:Func} {p:Tmp} (h:b.results= #[.cell p ty]) (a:Array Value) (w:World) (g:Nat) (cs:List Value) (d:TypeDesc)
    (f:a.getD p undef=pQ g) (c:w.rangeAt g 0 cs) (i:P.underlying ty=some d) (hd:d.isRow=true) (e:(P.info? ty).map (·.size)=some cs.length):
    (results b a).run P w= .ok (.agg cs.toArray) w:=by
 have Y9:a[p]?.getD undef=pQ g:=by simpa using f
 simp [results,h,Y9,asAddr,run_loadVar_mid w g 0 ty cs d c i hd e]
def M5 (w wr:World) (k:Nat):Prop:=
 bW w wr/\wr.heap.size=w.heap.size+2/\(∃cur:Array Value,cur.size=16/\wr.heap[w.heap.size]? =some (.cells cur 208 (0,0)))/\
  ∃cs:List Int,cs.length=16/\wr.heap[w.heap.size+1]? =some (.cells (cs.map (Value.int .u32)).toArray 208 (0,0))/\∀j,j<k->cs[j]? =some ((kV 4 j:Nat):Int)
def M5.next {wr:World} (h:M5 w wr k) (i:k<16):(∃v,wr.cell? ⟨w.heap.size+1,k,none⟩=some (.int .u32 v))/\wr.frozen? ⟨w.heap.size+1,k,none⟩=false/\
  M5 w (wr.setCell ⟨w.heap.size+1,k,none⟩ (.int .u32 ((kV 4 k:Nat):Int))) (k+1):=by
 obtain⟨b,g,⟨cur,c,a⟩,cs,f,aV,og⟩:=h;have oc:k<cs.length:=by omega
 refine⟨⟨cs[k],aj aV (by simp [oc])⟩,ae aV k,?_,?_,⟨cur,c,?_⟩,cs.set k ((kV 4 k:Nat):Int),by simp [f],?_,?_⟩
 .exact b.trans ((aa.setCell (F:=λj=>j=w.heap.size+1) (p:=⟨w.heap.size+1,k,none⟩) wr rfl _).below (λj d=>by omega) (by omega))
 .simpa [World.setCell] using g
 .rw [Below.heap_setCell _ _ _ _ (by simp)];exact a
 .rw [heap_setCell_same _ _ _ _ _ _ aV];congr 2;apply Array.ext';simp [List.map_set]
 .intro j d;by_cases e:j=k
  .subst e;simp [oc]
  .rw [List.getElem?_set_ne (by omega)];exact og j (by omega)
def M5.done {wr:World} (h:M5 w wr 16):wr.rangeAt (w.heap.size+1) 0 xP/\wr.there w.heap.size 0 xP.length:=by
 obtain⟨d,g,⟨cur,e,a⟩,cs,f,aV,og⟩:=h;constructor
 .intro j v c;have b:j<16:=by
   have:=(mL.1 c).1;rwa [DE] at this
  rw [Nat.zero_add];refine aj aV ?_;rw [<-c];simp [xP,og j b,b]
 .intro j b;rw [DE] at b;rw [Nat.zero_add];exact⟨by rw [aj a (j:=j) (u:=cur[j]'(by omega)) (by simp [show j<cur.size by omega])];rfl,ae a j⟩
def Jv (w:World):
  Calls prog 176 #[] w λe w'=>e= .returned (.agg xP.toArray)/\bW w w':=by
 go_in;go_wp2;go_loopw [5] (λi wr=>∃k:Nat,k<=16/\i=iV k/\M5 w wr k) (λi _=>16-(intOf i).toNat);case atStart=>
  refine⟨0,dV _,rfl,Below.alloc (Below.alloc (bi _ _) (bS _) _) (by simp) _,by simp,⟨_,?_,heap_alloc2_old _ _ _⟩,List.replicate 16 0,by simp,?_,λj b=>by omega⟩
  .rfl
  .rw [heap_alloc2_new];rfl
 case round=>
  obtain⟨k,f,rfl,Qi⟩:=hrel;by_cases bq:k<16
  .have cC:(k:Int)<16:=(by omega);obtain⟨⟨l,c⟩,d,acz⟩:=Qi.next bq;go_wp2;go_loopw [3,10] (λr i wx=>∃m:Nat,m<=4/\i=iV m/\wx=wr/\r= .int .u32 ((kV m k:Nat):Int)) (λ_ i _=>4-(intOf i).toNat);case atStart=>exact⟨0,dV _,rfl,rfl,rfl⟩
   case round=>
    obtain⟨m,g,rfl,rfl,rfl⟩:=hrel;have a:kV m k<4294967296:=uS m (by omega);by_cases xQ:m<4
    .have Br:(m:Int)<4:=(by omega);have ar:=ahD (kV m k) a;have bF:cb (kV m k)=kV (m+1) k:=(by rw [tk];rfl);go_wp2;go_roundw;case rel=>exact⟨m+1,by omega,by go_num,trivial,by rw [<-bF,<-(Vf (kV m k) a)]⟩
     case measure=>simp [intOf];omega
    .have Br:¬(m:Int)<4:=(by omega);have Za:m=4:=(by omega);subst Za;go_wp2;go_roundw;case rel=>exact⟨k+1,by omega,by go_num,acz⟩
     case measure=>simp [intOf];omega
  .have cC:¬(k:Int)<16:=(by omega);have ahE:k=16:=(by omega);subst ahE;obtain⟨A8,ef⟩:=Qi.done;have iP:=Qi.1;have bV:=all_oneCell_toArray Ve;go_wp2_with (first|refine wpList_load_mid rfl 208 _ rfl (w.heap.size+1) 0 rfl xP _ A8 underlying208 rfl DF ?_|refine wpList_store_mid rfl 208 _ _ rfl w.heap.size 0 xP.toArray rfl rfl ?h1 ?h2 bV ?_);case h2=>exact Option.map_eq_some_iff.1 DF
   exact bodyPost_ret (gw (P:=prog) rfl _ _ w.heap.size xP _ rfl (World.rangeAt_setCells_same wr w.heap.size 0 xP ef) underlying208 rfl DF) rfl ⟨rfl,iP.trans ((aa.setCells (F:=λj=>j=w.heap.size) rfl xP 0 wr).below (λj b=>by omega) iP.size)⟩
def Qj (a:w.heap[g]? =some (.cells xP.toArray 208 (0,0))) (i:Nat) (b:i<16):w.cell? (aD g i)=some (.int .u32 ((kV 4 i:Nat):Int)):=
 aj a (by simp [xP,b])
def Xy (r:Nat) (a:r<4294967296):bits .and .u32 (r:Int) 15=((r%16:Nat):Int):=by
 have:=u32_and_nat r 15 a (by omega);rw [show (15:Nat)=2 ^ 4-1 from rfl,Nat.and_two_pow_sub_one_eq_mod] at this;exact this
def FL (r:Nat) (b:r<4294967296):bits .xor .u32 ((r:Int) / 16) ((kV 4 (r%16):Nat):Int)=((kV 4 r:Nat):Int):=by
 have a:((r:Int) / 16)=((r / 16:Nat):Int):=by omega
 rw [a,u32_xor_nat _ _ (by omega) (uS 4 (by omega)),<-UU]
def FM (b o n c:Nat) (l:List Int) (w:World) (d:Bytes l) (F:l.length=n) (G:n<=140737488355328) (p:∀i,i<n->w.cell? ⟨b,o+i,none⟩=some (.int .u8 (l.getD i 0))):
  Calls prog 175 #[.agg xP.toArray, .int .u32 4294967295, .slice (some (aD b o)) n c] w λe w'=>e= .returned (.int .u32 ((nf 4294967295 l:Nat):Int))/\bW w w':=by
 go_in;go_wp2;go_loopw [1,11] (λr i wr=>∃k:Nat,k<=n/\i=iV k/\wr=w.alloc (.cells xP.toArray 208)/\r= .int .u32 ((nf 4294967295 (l.take k):Nat):Int)) (λ_ i _=>n-(intOf i).toNat);case atStart=>exact⟨0,dV _,rfl,rfl,by simp [tp]⟩
 case round=>
  obtain⟨k,E,rfl,rfl,rfl⟩:=hrel;by_cases bq:k<n
  .have cC:(k:Int)<(n:Int):=(by omega);have j:(w.alloc (.cells xP.toArray 208)).cell? ⟨b,o+k,none⟩=some (.int .u8 (l.getD k 0)):=Lib.cell?_alloc_some _ (p k bq);have acA:(w.alloc (.cells xP.toArray 208)).heap[w.heap.size]? =some (.cells xP.toArray 208 (0,0)):=heap_alloc_new _ _;have oc:k<l.length:=(by omega);obtain⟨x,f,jI⟩:∃x:Nat,l.getD k 0=(x:Int)/\x<256:=by
    have:=d l[k] (List.getElem_mem oc);refine⟨(l.getD k 0).toNat,?_,?_⟩<;> simp [List.getD,oc] <;> omega
   have pI:Bytes (l.take k):=λy s=>d y (List.mem_of_mem_take s);have m:nf 4294967295 (l.take k)<4294967296:=rZ (by omega) pI;have ie:nf 4294967295 (l.take (k+1))=kV 8 (nf 4294967295 (l.take k) ^^^ x):=by
    rw [List.take_succ_eq_append_getElem oc,yu _ _ pI];congr 2;have:l.getD k 0=l[k]:=(by simp [List.getD,oc]);rw [<-this,f];simp
   rw [f] at j;generalize D:nf 4294967295 (l.take k)=R at*;have a:R ^^^ x<4294967296:=by
    have:R ^^^ x<2 ^ 32:=Nat.xor_lt_two_pow (by omega) (by omega);omega
   have t:bits .xor .u32 (R:Int) (x:Int)=((R ^^^ x:Nat):Int):=u32_xor_nat _ _ m (by omega);have H:=Qj acA ((R ^^^ x)%16) (by omega);have u:=Xy (R ^^^ x) a;have v:=FL (R ^^^ x) a;have qL:=uS 4 a;have I:=Qj acA (kV 4 (R ^^^ x)%16) (by omega);have z:=Xy (kV 4 (R ^^^ x)) qL;have A:=FL (kV 4 (R ^^^ x)) qL;have C:kV 4 (kV 4 (R ^^^ x))=kV 8 (R ^^^ x):=(tk 4 4 _).symm;have q:IntKind.u32.wrap (x:Int)=(x:Int):=(by rw [IntKind.wrap_u32];omega);go_wp2;go_roundw;case rel=>exact⟨k+1,by omega,by go_num,trivial,by rw [ie]⟩
   case measure=>simp [intOf];omega
  .have cC:¬(k:Int)<(n:Int):=(by omega);have Uk:l.take k=l:=nr (by omega);have g:(bW w (w.alloc (.cells xP.toArray 208))):=(bi _ w).alloc (bS _) _;rw [Uk] at*;go_wp2;go_ret;exact⟨rfl,g⟩
def DG (a:Option Addr) (c:Nat) (w:World):
  Calls prog 175 #[.agg xP.toArray, .int .u32 4294967295, .slice a 0 c] w λe w'=>e= .returned (.int .u32 ((nf 4294967295 []:Nat):Int))/\bW w w':=by
 have b:(bW w (w.alloc (.cells xP.toArray 208))):=(bi _ w).alloc (bS _) _;rw [tp];go_in;go_wp2;refine wp_loop_rounds 1 ?_;rw [rounds_succ];go_wp2;go_ret;exact⟨rfl,b⟩
def FN (a:Option Addr) (n c:Nat) (l:List Int) (w:World) (f:Bytes l) (g:n<=140737488355328) (d:Src w a n l):
  Calls prog 175 #[.agg xP.toArray, .int .u32 4294967295, .slice a n c] w λe w'=>e= .returned (.int .u32 ((nf 4294967295 l:Nat):Int))/\bW w w':=by
 by_cases h0:n=0
 .subst h0;have:l= []:=List.eq_nil_of_length_eq_zero d.1;subst this;exact DG a c w
 .cases a with
  |none=>exact absurd (d.2.1 rfl) h0
  |some x=>
   obtain⟨b,o,rfl,k⟩:=d.spot (by omega);exact FM b o n c l w f d.1 g k
def Qk (r:Nat) (a:r<4294967296):bits .xor .u32 IntKind.u32.max (r:Int)=((r ^^^ 4294967295:Nat):Int):=by
 have e:IntKind.u32.max=((4294967295:Nat):Int):=by decide
 rw [e,u32_xor_nat _ _ (by omega) a,Nat.xor_comm]
def xR (a:Option Addr) (n c:Nat) (l:List Int) (w:World) (b:Bytes l) (d:n<=140737488355328) (f:Src w a n l):
  Calls prog 143 #[.slice a n c] w λe w'=>e= .returned (iV ((sumOf l:Nat):Int))/\bW w w':=by
 have Vg:=Qk _ (rZ (r:=4294967295) (by omega) b);have Xz:nf 4294967295 l ^^^ 4294967295<4294967296:=np b;have g:wrap64 ((nf 4294967295 l ^^^ 4294967295:Nat):Int)=((nf 4294967295 l ^^^ 4294967295:Nat):Int):=by unfold wrap64;omega
 unfold sumOf;go_in;go_wp2_with fail;refine(Jv w).mono ?_;rintro e w1 ⟨rfl,ar⟩;go_wp2_with fail;refine(FN a n c l w1 b d (f.later ar)).mono ?_;rintro e i ⟨rfl,bd⟩;go_wp2;go_ret;exact⟨rfl,ar.trans (bd.mono ar.size)⟩
structure pJ (w:World) where
 to:World
 h:bW w to
def ai {B:Nat} {a:World} (h:Below B a w):Below B a w.drew:=⟨h.os,h.tape,h.output,h.size,h.block⟩
theorem pJ.some (w:World):Nonempty (pJ w):=⟨⟨w,bi _ _⟩⟩
def xo {P:Program} {e:Nat} {Q:Exit->Act->World->Prop} {a:Act} {l:List Oper} (d:P.follows .mixedOrders=true) (c:Region.lexB .any l.toArray=true)
    (h:wpQuiet P l.toArray (λw'=>∃q:pJ w,w'=q.to) (λb=>∀w',(∃q:pJ w,w'=q.to)->Q .normal b w') l a):(Code.region e l.toArray true).wp P Q a w:=
 wp_region_quiet (C:=λw'=>∃q:pJ w,w'=q.to) d c ⟨⟨w.drew,ai (bi _ _)⟩,rfl⟩ (by simpa using h)
def Calls.Ql {P:Program} {f:FuncId} {args:Array Value} {q:pJ w}
    (h:Calls P f args q.to λe w'=>e= .returned v/\Below q.to.heap.size q.to w'):Calls P f args q.to λe Bi=>e= .returned v/\∃q':pJ w,Bi=q'.to:=
 h.mono λ_ w' ⟨a,b⟩=>⟨a,⟨w',q.h.trans (b.mono q.h.size)⟩,rfl⟩
def Own (w:World) (B:Nat) (v:Value) (l:List Int):Prop:=w.ownsRow B 5 1 v l.length (bs l)
def Own.nil (w:World) (B:Nat):Own w B (.slice none 0 0) []:=⟨by simp, .inl ⟨rfl,rfl⟩⟩
def Own.src {B:Nat} (h:Own w B v l):∃a c,v= .slice a l.length c/\Src w a l.length l/\l.length<=c/\(∀x,a=some x->B<=x.block/\x.off=0):=by
 by_cases f:v= .slice none 0 0
 .subst f;have h0:l.length=0:=by
   obtain⟨_,⟨_,j⟩|⟨g,c,cur,e,_⟩⟩:=h
   .exact j
   .cases e
  obtain rfl:=List.eq_nil_of_length_eq_zero h0;exact⟨none,0,rfl,⟨rfl,λ_=>rfl,λx b=>by cases b⟩,bS _,λx b=>by cases b⟩
 .obtain⟨g,c,rfl,i,d,_⟩:=ay.fe h f;refine⟨some (aD g 0),c,rfl,d.src,?_,λx b=>by cases b;exact⟨i,rfl⟩⟩;have:=d.le;simpa [bs] using this
def Own.row {B:Nat} {a:Option Addr} (h:Own w B (.slice a n c) l) (h0:0<l.length):∃g,a=some (aD g 0)/\n=l.length/\B<=g/\ay w 5 g c (bs l):=by
 obtain⟨g,c',e,b,d,_⟩:=ay.fe h (by
  intro e;cases e;obtain⟨_,⟨_,f⟩|⟨g,c,cur,e,_⟩⟩:=h
  .omega
  .cases e)
 cases e;exact⟨g,rfl,rfl,b,d⟩
def Own.later {B:Nat} (h:Own w B v l) (i:bW w w'):Own w' B v l:=by
 by_cases d:v= .slice none 0 0
 .subst d;obtain⟨f,⟨_,o⟩|⟨g,c,cur,e,_⟩⟩:=h
  .exact⟨f, .inl ⟨rfl,o⟩⟩
  .cases e
 .obtain⟨g,c,rfl,k,a,p⟩:=ay.fe h d;have Bt:=a.agree (i.block g a.lt);have m:=Bt.le;obtain⟨cur,eH,j,b,n⟩:=Bt;have Ul:(bs l).length=l.length:=by simp [bs]
  exact⟨by simp [bs], .inr ⟨g,c,cur,rfl,k,eH,by omega,n,by simpa using j,by rw [Ul] at b;simpa using b⟩⟩
def Own.down {B B':Nat} (h:Own w B v l) (f:B'<=B):Own w B' v l:=by
 obtain⟨a,b|⟨g,c,cur,e,i,d⟩⟩:=h
 .exact⟨a, .inl b⟩
 .exact⟨a, .inr ⟨g,c,cur,e,by omega,d⟩⟩
def iQ (a b:List Int):bs (a ++ b)=bs a ++ bs b:=List.map_append
def Vh (a:List Int) (x:Int):bs a ++ [.int .u8 x]=bs (a ++ [x]):=by rw [iQ];rfl
def j7 (l:List Int) (k:Nat) (h:k<l.length):l.take k ++ [l.getD k 0]=l.take (k+1):=by
 rw [List.take_succ_eq_append_getElem h];simp [List.getD,h]
def DH (h:l.take k=l'.take k) (a:k<l.length) (b:k<l'.length) (e:l.getD k 0=l'.getD k 0):l.take (k+1)=l'.take (k+1):=by
 rw [List.take_succ_eq_append_getElem a,List.take_succ_eq_append_getElem b,h];simp [List.getD,a,b] at e;rw [e]
def Jw (e:l.getD k 0≠l'.getD k 0):l≠l':=λh=>e (by rw [h])
def sec (l:List Int):List Int:=(List.range 512).map (λi=>l.getD i 0)
def DI {B:Nat} {m:List Int} (h:w.ownsRow B 5 1 v k (bs l)) (a:m.length=k) (e:m=l):Own w B v m:=by
 subst e;subst a;exact h
abbrev kG (p:Nat) (f n:Int):Value:= .agg #[pQ p,iV f,iV n]
def FO (p:Nat) (f n:Int) (w:World) (a:0<=f) (Ff:f<=100000) (b:0<=n) (mO:n<=100000):
  Calls prog 144 #[kG p f n] w λe w'=>e= .returned (iV (f+2+n))/\bW w w':=by
 go_in;go_wp2;go_ret;exact⟨rfl,(bi w.heap.size w).alloc (bS _) (.cells #[.pointer (some ⟨p,0,none⟩), .int .i64 f, .int .i64 n] 141)⟩
def LW (p:Nat) (f n x:Int) (w:World) (g:0<=f) (Ff:f<=100000) (i:1<=n) (mO:n<=100000) (a:0<=x):
  Calls prog 188 #[kG p f n,iV x] w λe w'=>e= .returned (iV (f+2+x%n))/\bW w w':=by
 have b:0<=x%n:=Int.emod_nonneg _ (by omega);have c:x%n<n:=Int.emod_lt_of_pos _ (by omega);have d:x.tmod n=x%n:=Int.tmod_eq_emod_of_nonneg a;generalize x%n=y at*;go_in;go_wp2
 go_region
 go_wp2;go_ret;exact⟨rfl,ai ((bi w.heap.size w).alloc (bS _) (.cells #[.pointer (some ⟨p,0,none⟩), .int .i64 f, .int .i64 n] 141))⟩
def cw (S:DS) (s:Nat) (f n:Int):Int:=
 if S.fuse=0 then 3 else if f<0\/(s:Int)<=f then 11 else if n<18\/256<n then 1 else if (s:Int)<f+2+n then 11 else 0
def aQ.boxed {s:Nat} (h:aQ w F p s S) (o:Obj):aQ (w.alloc o) F p s S:=
 h.aw (aa.ah (λ_=>False) ((bi w.heap.size w).alloc (bS _) o)) (λ_ _ h=>h)
def FP {s:Nat} (h:aQ w F p s S) (f n:Int) (v:s<=2048):
  Calls prog 97 #[kG p f n] w λe w'=>e= .returned (iV (cw S s f n))/\bW w w':=by
 have c:=(bi w.heap.size w).alloc (bS _) (.cells #[.pointer (some ⟨p,0,none⟩), .int .i64 f, .int .i64 n] 141);have d:=yz (h.boxed (.cells #[.pointer (some ⟨p,0,none⟩), .int .i64 f, .int .i64 n] 141));have b:=iu (h.boxed (.cells #[.pointer (some ⟨p,0,none⟩), .int .i64 f, .int .i64 n] 141));have i:=FO p f n (w.alloc (.cells #[.pointer (some ⟨p,0,none⟩), .int .i64 f, .int .i64 n] 141));unfold cw;go_in;by_cases g:S.fuse=0
 .rw [show (S.fuse == 0)=true by simp [g]] at b;rw [aG g];go_wp2_with (first|(go_at_call 36;refine d.mono ?_;rintro e w' ⟨rfl,a⟩;subst a)|(go_at_call 34;refine b.mono ?_;rintro e w' ⟨rfl,a⟩;subst a));go_ret;exact⟨rfl,c⟩
 .rw [show (S.fuse == 0)=false by simp [g]] at b;rw [aB g];by_cases j:f<0\/(s:Int)<=f
  .rw [aG j];by_cases o:f<0
   .clear j;go_wp2_with (first|(go_at_call 36;refine d.mono ?_;rintro e w' ⟨rfl,a⟩;subst a)|(go_at_call 34;refine b.mono ?_;rintro e w' ⟨rfl,a⟩;subst a));go_ret;exact⟨rfl,c⟩
   .have q:(s:Int)<=f:=(by omega);go_wp2_with (first|(go_at_call 36;refine d.mono ?_;rintro e w' ⟨rfl,a⟩;subst a)|(go_at_call 34;refine b.mono ?_;rintro e w' ⟨rfl,a⟩;subst a));go_ret;exact⟨rfl,c⟩
  .rw [aB j];have o:¬f<0:=(by omega);have q:¬(s:Int)<=f:=(by omega);by_cases k:n<18\/256<n
   .rw [aG k];by_cases r:n<18
    .clear k;go_wp2_with (first|(go_at_call 36;refine d.mono ?_;rintro e w' ⟨rfl,a⟩;subst a)|(go_at_call 34;refine b.mono ?_;rintro e w' ⟨rfl,a⟩;subst a));go_ret;exact⟨rfl,c⟩
    .have t:256<n:=(by omega);go_wp2_with (first|(go_at_call 36;refine d.mono ?_;rintro e w' ⟨rfl,a⟩;subst a)|(go_at_call 34;refine b.mono ?_;rintro e w' ⟨rfl,a⟩;subst a));go_ret;exact⟨rfl,c⟩
   .rw [aB k];have r:¬n<18:=(by omega);have t:¬256<n:=(by omega);have i:=i (by omega) (by omega) (by omega) (by omega);by_cases m:(s:Int)<f+2+n
    .rw [aG m];go_wp2_with (first|(go_at_call 36;refine d.mono ?_;rintro e w' ⟨rfl,a⟩;subst a)|(go_at_call 34;refine b.mono ?_;rintro e w' ⟨rfl,a⟩;subst a));refine bM i λu l=>?_;go_wp2;go_ret;exact⟨rfl,c.trans (l.mono c.size)⟩
    .rw [aB m];go_wp2_with (first|(go_at_call 36;refine d.mono ?_;rintro e w' ⟨rfl,a⟩;subst a)|(go_at_call 34;refine b.mono ?_;rintro e w' ⟨rfl,a⟩;subst a));refine bM i λu l=>?_;go_wp2;go_ret;exact⟨rfl,c.trans (l.mono c.size)⟩
def pK (a b:Nat) (e:a<4294967296) (f:b<4294967296):bits .xor .i64 (a:Int) (b:Int)=((a ^^^ b:Nat):Int):=by
 have g:a ^^^ b<2 ^ 32:=Nat.xor_lt_two_pow (by omega) (by omega);have c:(BitVec.ofInt 64 (a:Int)).toNat=a:=by rw [BitVec.ofInt_natCast,BitVec.toNat_ofNat];exact Nat.mod_eq_of_lt (by omega)
 have d:(BitVec.ofInt 64 (b:Int)).toNat=b:=by rw [BitVec.ofInt_natCast,BitVec.toNat_ofNat];exact Nat.mod_eq_of_lt (by omega)
 show IntKind.i64.wrap ((BitVec.ofInt 64 (a:Int) ^^^ BitVec.ofInt 64 (b:Int)).toNat:Int)=_;rw [BitVec.toNat_xor,c,d,IntKind.wrap_i64];omega
def Qm (a:Nat) (d:a<4294967296):bits .and .i64 (a:Int) 1=((a%2:Nat):Int):=by
 have b:(BitVec.ofInt 64 (a:Int)).toNat=a:=by rw [BitVec.ofInt_natCast,BitVec.toNat_ofNat];exact Nat.mod_eq_of_lt (by omega)
 have c:(BitVec.ofInt 64 (1:Int)).toNat=1:=by decide
 show IntKind.i64.wrap ((BitVec.ofInt 64 (a:Int) &&& BitVec.ofInt 64 (1:Int)).toNat:Int)=_;rw [BitVec.toNat_and,b,c,IntKind.wrap_i64,Nat.and_one_is_mod];omega
def Qn (b o n c:Nat) (l:List Int) (w:World) (j:Bytes l) (F:l.length=n) (H:n<=140737488355328) (q:∀i,i<n->w.cell? ⟨b,o+i,none⟩=some (.int .u8 (l.getD i 0))):
  Calls prog 235 #[.slice (some (aD b o)) n c] w λe w'=>e= .returned (iV ((sumOf l:Nat):Int))/\bW w w':=by
 have t:=yh q;clear q;unfold sumOf;go_in;go_wp2;go_loopw [3,4] (λr i wr=>∃k:Nat,k<=n/\i=iV k/\wr=w/\r=iV ((nf 4294967295 (l.take k):Nat):Int)) (λ_ i _=>n-(intOf i).toNat);case atStart=>exact⟨0,dV _,rfl,rfl,by simp [tp]⟩
 case round=>
  obtain⟨k,E,rfl,rfl,rfl⟩:=hrel;by_cases bq:k<n
  .have cC:(k:Int)<(n:Int):=(by omega);have z:=t.o k bq;have oc:k<l.length:=(by omega);obtain⟨x,p,jI⟩:∃x:Nat,l.getD k 0=(x:Int)/\x<256:=by
    have:=j l[k] (List.getElem_mem oc);refine⟨(l.getD k 0).toNat,?_,?_⟩<;> simp [List.getD,oc] <;> omega
   have pI:Bytes (l.take k):=λy C=>j y (List.mem_of_mem_take C);have d:nf 4294967295 (l.take k)<4294967296:=rZ (by omega) pI;have ie:nf 4294967295 (l.take (k+1))=kV 8 (nf 4294967295 (l.take k) ^^^ x):=by
    rw [List.take_succ_eq_append_getElem oc,yu _ _ pI];congr 2;have:l.getD k 0=l[k]:=(by simp [List.getD,oc]);rw [<-this,p];simp
   have g:=yh ie;rw [p] at z;generalize v:nf 4294967295 (l.take k)=R at*;have A:R ^^^ x<4294967296:=by
    have:R ^^^ x<2 ^ 32:=Nat.xor_lt_two_pow (by omega) (by omega);omega
   have u:bits .xor .i64 (R:Int) (x:Int)=((R ^^^ x:Nat):Int):=pK _ _ d (by omega);clear ie v pI d p;go_wp2;go_loopw [3,5] (λr i wx=>∃m:Nat,m<=8/\i=iV m/\wx=wr/\r=iV ((kV m (R ^^^ x):Nat):Int)) (λ_ i _=>8-(intOf i).toNat);case atStart=>exact⟨0,dV _,rfl,rfl,rfl⟩
   case round=>
    obtain⟨m,G,rfl,rfl,rfl⟩:=hrel;have d:=uS m A;by_cases xQ:m<8
    .have Br:(m:Int)<8:=(by omega);have bF:cb (kV m (R ^^^ x))=kV (m+1) (R ^^^ x):=(by rw [tk];rfl);generalize kV m (R ^^^ x)=S at*;have f:=yh bF;clear bF;have I:=Qm S d;rcases Nat.mod_two_eq_zero_or_one S with a|a
     .have D:(((S%2:Nat):Int) == 1)=false:=(by rw [a];rfl);have Zb:Yh (cb S=S / 2):=(by show cb S=S / 2;simp [cb,a]);clear a;go_wp2;go_roundw;case rel=>exact⟨m+1,by omega,by go_num,trivial,by rw [<-f.o,Zb.o];first|(rw [Int.natCast_ediv];rfl)|rw [s.out]⟩
      case measure=>simp [intOf];omega
     .have D:(((S%2:Nat):Int) == 1)=true:=(by rw [a];rfl);have s:Yh (bits .xor .i64 ((S:Int) / 2) 2197175160=((S / 2 ^^^ 2197175160:Nat):Int)):=pK (S / 2) 2197175160 (by omega) (by omega);have Zb:Yh (cb S=S / 2 ^^^ 2197175160):=(by show cb S=S / 2 ^^^ 2197175160;simp [cb,a]);clear a;go_wp2;go_roundw;case rel=>exact⟨m+1,by omega,by go_num,trivial,by rw [<-f.o,Zb.o];first|(rw [Int.natCast_ediv];rfl)|rw [s.out]⟩
      case measure=>simp [intOf];omega
    .have Br:¬(m:Int)<8:=(by omega);have XA:m=8:=(by omega);subst XA;go_wp2;go_roundw;case rel=>exact⟨k+1,by omega,by go_num,trivial,by rw [g.o]⟩
     case measure=>simp [intOf];omega
  .have cC:¬(k:Int)<(n:Int):=(by omega);have Uk:l.take k=l:=nr (by omega);have d:nf 4294967295 l<4294967296:=rZ (by omega) j;have u:bits .xor .i64 ((nf 4294967295 l:Nat):Int) 4294967295=((nf 4294967295 l ^^^ 4294967295:Nat):Int):=pK (nf 4294967295 l) 4294967295 d (by omega);rw [Uk] at*;go_wp2;go_ret;exact⟨rfl,(yh (bi wr.heap.size wr)).out⟩
def M6 (a:Option Addr) (c:Nat) (w:World):
  Calls prog 235 #[.slice a 0 c] w λe w'=>e= .returned (iV ((sumOf []:Nat):Int))/\bW w w':=by
 have d:bits .xor .i64 4294967295 4294967295=0:=by decide
 have b:sumOf []=0:=by decide
 rw [b];go_in;go_wp2;refine wp_loop_rounds 1 ?_;rw [rounds_succ];go_wp2;go_ret;exact⟨rfl,bi w.heap.size w⟩
def Qo (a:Option Addr) (n c:Nat) (l:List Int) (w:World) (f:Bytes l) (g:n<=140737488355328) (d:Src w a n l):
  Calls prog 235 #[.slice a n c] w λe w'=>e= .returned (iV ((sumOf l:Nat):Int))/\bW w w':=by
 by_cases h0:n=0
 .subst h0;have:l= []:=List.eq_nil_of_length_eq_zero d.1;subst this;exact M6 a c w
 .cases a with
  |none=>exact absurd (d.2.1 rfl) h0
  |some x=>
   obtain⟨b,o,rfl,k⟩:=d.spot (by omega);exact Qn b o n c l w f d.1 g k
def acC (n:Nat) (a b:Int) (w:World):(Op.equalIn (n+1) 5 (.int .u8 a) (.int .u8 b)).run prog w= .ok (a == b) w:=by
 simp [Op.equalIn,go_sem]
def LX (xs:Array Value) (a:Nat) (v:Value) (w:World) (h:xs[a]? =some v):(part 5 xs a).run prog w= .ok v w:=run_part_plain (P:=prog) w (by kernel_rfl) h
def M7 (n:Nat) (w:World) (xs c:Array Value) (j:Nat) (a b:Int) (d:List Nat) (e:xs[j]? =some (.int .u8 a)) (f:c[j]? =some (.int .u8 b)):
    (Op.eqItems (n+1) 5 1 xs c (j :: d)).run prog w=if a=b then (Op.eqItems (n+1) 5 1 xs c d).run prog w else .ok false w:=by
 simp only [Op.eqItems,Nat.mul_one,Sem.run_bind,LX xs j _ w e,LX c j _ w f,Result.andThen_ok,acC];by_cases h:a=b
 .simp [h]
 .simp [h]
def yQ (n:Nat) (l m:List Int) (w:World):∀js:List Nat,(∀j∈js,j<l.length/\j<m.length)->
    (Op.eqItems (n+1) 5 1 (bs l).toArray (bs m).toArray js).run prog w= .ok (decide (∀j∈js,l.getD j 0=m.getD j 0)) w
 | [],_=>by simp [Op.eqItems]
 |j :: js,h=>by
  obtain⟨f,g⟩:=h j (by simp);have d:(bs l).toArray[j]? =some (.int .u8 (l.getD j 0)):=by simp [bs,List.getD,f]
  have e:(bs m).toArray[j]? =some (.int .u8 (m.getD j 0)):=by simp [bs,List.getD,g]
  rw [M7 n w _ _ j _ _ js d e];by_cases c:l.getD j 0=m.getD j 0
  .rw [aG c,(yQ n l m w js (λi a=>h i (by simp [a])))];refine congrArg (λb=>Result.ok b w) ?_;rw [decide_eq_decide];exact⟨λk i a=>by rcases List.mem_cons.1 a with rfl|a;exact c;exact k i a,λk i a=>k i (by simp [a])⟩
  .rw [aB c];refine congrArg (λb=>Result.ok b w) ?_;symm;rw [decide_eq_false_iff_not];exact λk=>c (k j (by simp))
def Qp {m:List Int} (b:l.length=m.length) (h:∀i,i<l.length->l.getD i 0=m.getD i 0):l=m:=by
 apply List.ext_getElem?;intro i;by_cases a:i<l.length
 .have:=h i a;simp only [List.getD,List.getElem?_eq_getElem a,List.getElem?_eq_getElem (show i<m.length by omega),Option.getD_some] at this;rw [List.getElem?_eq_getElem a,List.getElem?_eq_getElem (show i<m.length by omega),this]
 .rw [List.getElem?_eq_none (by omega),List.getElem?_eq_none (by omega)]
def Jy (N n:Nat) (T:TypeId) (l m:List Int) (f:l.length=N) (g:m.length=N) (w:World) (e:prog.underlying T=some (.array N 5)):
    (Op.equalIn (n+2) T (.agg (bs l).toArray) (.agg (bs m).toArray)).run prog w= .ok (decide (l=m)) w:=by
 obtain⟨k,c⟩:=info_of_underlying (P:=prog) underlying5;rw [run_equalIn_array (P:=prog) w (n+1) _ _ e c];have a:prog.cellsOf 5=1:=by kernel_rfl
 rw [a,yQ n l m w _ (λj d=>by rw [List.mem_range] at d;omega)];refine congrArg (λb=>Result.ok b w) ?_;rw [decide_eq_decide];constructor
 .intro h;exact Qp (by omega) (λi c=>h i (List.mem_range.2 (by omega)))
 .rintro rfl _ _;rfl
def Zc (n:Nat) (l m:List Int) (a:l.length=512) (b:m.length=512) (w:World):
    (Op.equalIn (n+2) 210 (.agg (bs l).toArray) (.agg (bs m).toArray)).run prog w= .ok (decide (l=m)) w:=
 Jy 512 n 210 l m a b w underlying210
def Qq:prog.eqGuardType prog.depth 210=false:=by kernel_rfl
def Qr (l m:List Int) (a:l.length=512) (b:m.length=512) (w:World) (x y:Operand):
    (do eqGuard .eql 210 x y (.agg (bs l).toArray) (.agg (bs m).toArray);binOp .eql 210 (.agg (bs l).toArray) (.agg (bs m).toArray)).run prog w= .ok (.bool (decide (l=m))) w:=by
 rw [Sem.run_bind,run_eqGuard_agg (P:=prog) w .eql 210 x y _ _ Qq,Result.andThen_ok];show (binOp .eql 210 (.agg (bs l).toArray) (.agg (bs m).toArray)).run prog w=_;unfold binOp Op.equal Op.maxDepth;rw [Sem.run_bind,Zc 9998 l m a b w,Result.andThen_ok,Sem.run_pure]
def mr (g o i j:Nat) (w:World) (a:i<j) (f:j<=512):
  Calls prog 218 #[.pointer (some (aD g o)),iV (i:Int),iV (j:Int)] w λe w'=>e= .returned (.slice (some ⟨g,o+i,none⟩) (j-i) (j-i))/\w'=w:=by
 have b:(i:Int)<=(j:Int):=by omega
 have c:(j:Int)<=512:=by omega
 have d:¬j=i:=by omega
 go_in;go_wp2;go_ret;exact⟨rfl,rfl⟩
def Qs (g o i:Nat) (w:World) (b:i<=512):
  Calls prog 218 #[.pointer (some (aD g o)),iV (i:Int),iV (i:Int)] w λe w'=>e= .returned (.slice (some (aD g o)) 0 0)/\w'=w:=by
 have a:(i:Int)<=512:=by omega
 go_in;go_wp2;go_ret;exact⟨rfl,rfl⟩
def bB:Nat->Nat->List Int
 |0,_=> []
 |k+1,m=>((m%256:Nat):Int) :: bB k (m / 256)
def aK:∀k m,(bB k m).length=k
 |0,_=>rfl
 |k+1,m=>by simp [bB,aK k]
def i7:∀k m,bB (k+1) m=bB k m ++ [((m / 2 ^ (8*k)%256:Nat):Int)]
 |0,m=>by simp [bB]
 |k+1,m=>by
  rw [bB,i7 k (m / 256),bB];have:m / 256 / 2 ^ (8*k)=m / 2 ^ (8*(k+1)):=by
   rw [Nat.div_div_eq_div_mul,show 8*(k+1)=8+8*k by omega,Nat.pow_add]
  simp [this]
def iR:∀k m,Bytes (bB k m)
 |0,_=>by intro x a;cases a
 |k+1,m=> .cons (by omega) (iR k _)
def put (l:List Int) (o:Nat) (xs:List Int):List Int:=l.take o ++ (xs ++ l.drop (o+xs.length))
def LZ {o:Nat} (h:o+xs.length<=l.length):(put l o xs).length=l.length:=by simp [put];omega
def DJ (l:List Int) (o:Nat):put l o []=l:=by simp [put]
def FQ {o:Nat} (h:o+xs.length<l.length) (x:Int):(put l o xs).set (o+xs.length) x=put l o (xs ++ [x]):=by
 unfold put;have a:(l.take o).length=o:=by simp;omega
 rw [List.set_append_right _ _ (by omega),a,List.set_append_right _ _ (by omega),show o+xs.length-o-xs.length=0 by omega];have:l.drop (o+xs.length)=l[o+xs.length] :: l.drop (o+xs.length+1):=List.drop_eq_getElem_cons h;rw [this,List.set_cons_zero];simp [Nat.add_assoc]
def j8 (w:World) (T:TypeId) (g:Nat) (l:List Int):Prop:=w.heap[g]? =some (.cells (bs l).toArray T (0,0))
def j8.lt (h:j8 w T g l):g<w.heap.size:=(lR.1 h).1
def j8.cell (h:j8 w T g l) (a:i<l.length):w.cell? (aD g i)=some (.int .u8 (l.getD i 0)):=
 aj h (by simp [bs,List.getD,a])
def j8.frozen (h:j8 w T g l) (i:Nat):w.frozen? (aD g i)=false:=ae h i
def j8.set (h:j8 w T g l) (i:Nat) (x:Int):j8 (w.setCell ⟨g,i,none⟩ (.int .u8 x)) T g (l.set i x):=by
 unfold j8;rw [heap_setCell_same _ _ _ _ _ _ h];congr 2;apply Array.ext';simp [bs,List.map_set]
def j8.aw (h:j8 w T g l) (a:w'.heap[g]? =w.heap[g]?):j8 w' T g l:=a.trans h
def j8.src (h:j8 w T g l) {o:Nat} (c:o+n<=l.length):Src w (some (aD g o)) n ((l.drop o).take n):=
   ⟨by simp;omega,(λe=>by cases e),λx b i a=>by
  cases b;rw [aN,h.cell (by omega)];simp [List.getD,a]⟩
def DK (g o k c N:Nat) (T:TypeId) (l:List Int) (w:World) (d:j8 w T g l) (q:k<=8) (r:o+k<=l.length):
  Calls prog 217 #[.slice (some (aD g o)) k c, .int .u64 (N:Int)] w λe w'=>e= .returned (.tuple #[])/\j8 w' T g (put l o (bB k N))/\aa (λj=>j=g) w w'/\w'.heap.size=w.heap.size:=by
 go_in;go_wp2;go_loopw [7] (λi wr=>∃j:Nat,j<=k/\i=iV j/\j8 wr T g (put l o (bB j N))/\aa (λj=>j=g) w wr/\wr.heap.size=w.heap.size) (λi _=>k-(intOf i).toNat);case atStart=>exact⟨0,dV _,rfl,by rw [bB,DJ];exact d,aa.refl _ _,rfl⟩
 case round=>
  obtain⟨j,n,rfl,aV,rI,eE⟩:=hrel;by_cases bq:j<k
  .have cC:(j:Int)<(k:Int):=(by omega);have a:=aK j N;have py:=LZ (l:=l) (xs:=bB j N) (o:=o) (by omega);have f:=aV.cell (i:=o+j) (by omega);have m:=aV.frozen (o+j);have pd:=aV.set (o+j) ((N / 2 ^ (8*j)%256:Nat):Int);have e:=FQ (l:=l) (xs:=bB j N) (o:=o) (by omega) ((N / 2 ^ (8*j)%256:Nat):Int);rw [a] at e;rw [e,<-i7] at pd;have b:=(rI.trans (aa.setCell (F:=λj=>j=g) (p:=⟨g,o+j,none⟩) wr rfl (.int .u8 ((N / 2 ^ (8*j)%256:Nat):Int))) (λ_ h=> .inl h));go_wp2;go_roundw;case rel=>exact⟨j+1,by omega,by go_num,pd,b,by simpa [World.setCell] using eE⟩
   case measure=>simp [intOf];omega
  .have cC:¬(j:Int)<(k:Int):=(by omega);obtain rfl:j=k:=(by omega);go_wp2
   go_end0
   exact⟨rfl,aV,rI,eE⟩
def Zd (i A X:Nat) (c:A<2 ^ i) (h:A+2 ^ i*X<18446744073709551616):
  bits .or .u64 (A:Int) ((2 ^ i*X:Nat):Int)=((A+2 ^ i*X:Nat):Int):=by
 have q:∀z:Nat,z<18446744073709551616->(BitVec.ofInt 64 (z:Int)).toNat=z:=by
  intro z d;rw [BitVec.toNat_ofInt];omega
 have a:A<18446744073709551616:=by omega
 have b:2 ^ i*X<18446744073709551616:=by omega
 show IntKind.u64.wrap ((BitVec.ofInt 64 (A:Int) |||BitVec.ofInt 64 ((2 ^ i*X:Nat):Int)).toNat:Int)=_;rw [BitVec.toNat_or,q A a,q _ b,Nat.or_comm,<-Nat.two_pow_add_eq_or_of_lt c X,Nat.add_comm];generalize A+2 ^ i*X=Z at*;simp only [IntKind.wrap,IntKind.bits,IntKind.signed];simp;omega
def Vi (x:Int) (k:Nat) (a:k<8):(x*2 ^ min ((8*(k:Int)).toNat) 64)=x*2 ^ (8*k):=by
 congr 2;omega
def lC (a:k<l.length):le (l.take (k+1))=le (l.take k)+2 ^ (8*k)*(l.getD k 0).toNat:=by
 rw [List.take_succ_eq_append_getElem a,uT];have:(l.take k).length=k:=by simp;omega
 rw [this];simp [le,List.getD,a]
def FR (a:Bytes l) (h:l.length<=8):le l<18446744073709551616:=by
 have:=lw a;exact i5 this (by have:=Nat.pow_le_pow_right (show 0<2 by omega) (show 8*l.length<=64 by omega);simpa using this)
def ve (b o n c:Nat) (l:List Int) (w:World) (d:Bytes l) (u:l.length=n) (v:n<=8) (g:∀i,i<n->w.cell? ⟨b,o+i,none⟩=some (.int .u8 (l.getD i 0))):
  Calls prog 237 #[.slice (some (aD b o)) n c] w λe w'=>e= .returned (.int .u64 ((le l:Nat):Int))/\w'=w:=by
 have m:=yh g;clear g;go_in;go_wp2;go_loopw [3,8] (λr i wr=>∃j:Nat,j<=n/\i=iV j/\wr=w/\r= .int .u64 ((le (l.take j):Nat):Int)) (λ_ i _=>n-(intOf i).toNat);case atStart=>exact⟨0,dV _,rfl,rfl,by simp [le]⟩
 case round=>
  obtain⟨j,t,rfl,rfl,rfl⟩:=hrel;by_cases bq:j<n
  .have cC:(j:Int)<(n:Int):=(by omega);have q:=m.o j bq;obtain⟨x,s,jI⟩:∃x:Nat,l.getD j 0=(x:Int)/\x<256:=by
    have:=d.getD j;exact⟨(l.getD j 0).toNat,by omega,by omega⟩
   have iz:=lC (l:=l) (k:=j) (by omega);have f:le (l.take j)<2 ^ (8*j):=by
    have:=lw (d.take j);have e:(l.take j).length=j:=(by simp;omega);rwa [e] at this
   have a:le (l.take (j+1))<18446744073709551616:=FR (d.take _) (by simp;omega);rw [s] at q iz;simp only [Int.toNat_natCast] at iz;rw [iz] at a;have M8:=Zd (8*j) _ x f a;rw [<-iz] at M8;have Ze:((x:Int)*2 ^ (8*j))=((2 ^ (8*j)*x:Nat):Int):=(by rw [Int.natCast_mul,Int.natCast_pow,Int.mul_comm];rfl);have tz:((2 ^ (8*j)*x:Nat):Int)%18446744073709551616=((2 ^ (8*j)*x:Nat):Int):=(by omega);generalize 2 ^ (8*j)*x=Y at*;generalize le (l.take j)=A at*;clear f a iz;go_wp2;go_roundw;case rel=>exact⟨j+1,by omega,by go_num,trivial,by rw [<-(yh M8).out]⟩
   case measure=>simp [intOf];omega
  .have cC:¬(j:Int)<(n:Int):=(by omega);have p:l.take j=l:=nr (by omega);rw [p] at*;go_wp2;go_ret;exact⟨rfl,rfl⟩
def oo (g o:Nat) (a b:Int) (w:World) (n:w.cell? (aD g o)=some (.int .u8 a)) (p:w.cell? ⟨g,o+511,none⟩=some (.int .u8 b)):
  Calls prog 181 #[.pointer (some (aD g o))] w λe w'=>e= .returned (.int .u8 ((cG a b:Nat):Int))/\w'=w:=by
 have l:=gu a b;have Zf:∀k:Nat,k<cG a b->(k:Int)=a\/(k:Int)=b:=by
  intro k d;unfold cG at d;split at d
  .omega
  .split at d
   .next c f=>omega
   .next c f=>omega
 have dM:=Cj a b;generalize cG a b=t at*;go_in;go_wp2;go_loopw [3] (λi wr=>∃k:Nat,k<=t/\i= .int .u8 k/\wr=w) (λi _=>t-(intOf i).toNat);case atStart=>exact⟨0,dV _,rfl,rfl⟩
 case round=>
  obtain⟨k,d,rfl,rfl⟩:=hrel;by_cases bq:k<t
  .by_cases c:(k:Int)=a
   .have j:((k:Int) == a)=true:=(by simpa using c);go_wp2;go_roundw;case rel=>exact⟨k+1,by omega,by go_num,trivial⟩
    case measure=>simp [intOf];omega
   .have f:=(Zf k bq).resolve_left c;have j:((k:Int) == a)=false:=(by simpa using c);have m:((k:Int) == b)=true:=(by simpa using f);go_wp2;go_roundw;case rel=>exact⟨k+1,by omega,by go_num,trivial⟩
    case measure=>simp [intOf];omega
  .obtain rfl:k=t:=(by omega);have j:((k:Int) == a)=false:=(by simpa using dM.1);have m:((k:Int) == b)=false:=(by simpa using dM.2);go_wp2;go_ret;exact⟨rfl,rfl⟩
def Qt (g:Nat) (T:TypeId) (l:List Int) (w:World) (d:j8 w T g l) (z:l.length=512) (dD:Bytes l):
  Calls prog 219 #[pQ g] w λe w'=>e= .returned (iV ((sumOf (xO l):Nat):Int))/\bW w w':=by
 obtain⟨y,v,gB,dC,eu⟩:=info_parts gh;have s1:=d.src (o:=1) (n:=2) (by omega);have s2:=d.src (o:=7) (n:=504) (by omega);have r:Bytes ((l.drop 1).take 2):=(dD.drop _).take _;have s:Bytes ((l.drop 7).take 504):=(dD.drop _).take _;unfold xO;generalize (l.drop 1).take 2=X at*;generalize (l.drop 7).take 504=Y at*;go_in;go_wp2_with fail;refine(mr g 0 1 3 w (by omega) (by omega)).mono ?_;rintro e w1 ⟨rfl,i⟩;have eM:=i.symm;subst eM;go_wp2_with fail;refine(mr g 0 7 511 w (by omega) (by omega)).mono ?_;rintro e w1 ⟨rfl,i⟩;have eM:=i.symm;subst eM;go_wp2_with (at_builtin;refine wpList_append_grows _ rfl _ _ 22 rfl 5 y (.int .u8 0) 1 1 underlying22 v gB dC eu rfl (by decide) (some (aD g 1)) 2 2 (bs X) rfl ?m0 ?m1 ?m2 (aD g 7) 504 504 (bs Y) rfl ?m3 ?m4 ?m5 ?m6 ?m7 ?m8 ?_);case m0=>intro h;cases h
 case m1=>have:=s1.1;simpa [bs] using this
 case m2=>
  intro b d j u f;cases d;obtain⟨Zg,rfl⟩:=fx f;have:=s1.1;exact s1.2.2 _ rfl j (by omega)
 case m3=>have:=s2.1;simpa [bs] using this
 case m4=>
  intro j u f;obtain⟨Zg,rfl⟩:=fx f;have:=s2.1;exact s2.2.2 _ rfl j (by omega)
 case m5=>exact cF _
 case m6=>omega
 case m7=>unfold maxLen;omega
 case m8=>omega
 intro A w1 aA aR;have t:=DI (l:=X ++ Y) (by rw [iQ];exact aA) (by have:=s1.1;have:=s2.1;simp;omega) rfl;obtain⟨a,c,rfl,fS,_,_⟩:=t.src;have q:=xR a (X ++ Y).length c (X ++ Y) w1 (r.append s) (by have:=s1.1;have:=s2.1;simp;omega) fS;have m:=(bi _ w).grown aR (bS _) (by intro k x;cases x);generalize (X ++ Y).length=N at*;obtain⟨E,p⟩:=bQ (sumOf (X ++ Y));rw [<-p] at q;go_wp2_with fail;refine bM q λC bd=>?_;go_wp2;go_ret;exact⟨by rw [<-p];rfl,m.trans (bd.mono m.size)⟩
def zs (n:Nat):List Int:=List.replicate n 0
def bH (n:Nat):(zs n).length=n:=List.length_replicate
def ot (n:Nat):zs (n+1)=0 :: zs n:=List.replicate_succ
def lU (n m:Nat):zs (n+m)=zs n ++ zs m:=by unfold zs;rw [List.replicate_append_replicate]
def bm:Array Value:=(bs (zs 512)).toArray
def L0:(prog.info? 210).map (λi=>(i.zero,i.size))=some (some (.agg bm),512):=by kernel_rfl
def ji (w:World):(zeroValue 210).run prog w= .ok (.agg bm) w:=by
 obtain⟨i,b,a⟩:=Option.map_eq_some_iff.1 L0;simp only [Prod.mk.injEq] at a;simp [zeroValue,typeInfo,b,a.1]
def DM:(prog.info? 210).map (·.size)=some 512:=by
 obtain⟨i,b,a⟩:=Option.map_eq_some_iff.1 L0;simp only [Prod.mk.injEq] at a;rw [b,<-a.2];rfl
def ahG (n:Nat) (h:n<65536):bB 2 n= [((n%256:Nat):Int),((n / 256:Nat):Int)]:=by
 simp only [bB];congr 3;omega
def acD (s:Nat):bB 4 s=nZ s:=by
 simp only [bB,nZ,Nat.div_div_eq_div_mul]
def Qu (l:List Int) (x y:Int):(l ++ [x]).set l.length y=l ++ [y]:=by
 rw [List.set_append_right _ _ (bS _),Nat.sub_self];rfl
def s1 (t:Int):List Int:=t :: (zs 510 ++ [t])
def Zh (t:Int):(s1 t).length=512:=by simp only [s1,List.length_cons,ed,bH,List.length_nil]
def s2 (t:Int) (n:Nat):List Int:=t :: ((n%256:Nat):Int) :: ((n / 256:Nat):Int) :: (zs 508 ++ [t])
def Zi (t:Int) (n:Nat):(s2 t n).length=512:=by simp only [s2,List.length_cons,ed,bH,List.length_nil]
def acE (t:Int) (n:Nat) (h:n<65536):put (s1 t) 1 (bB 2 n)=s2 t n:=by
 rw [ahG n h];unfold s1 s2;rw [ot 509,ot 508];simp only [put,List.take_succ_cons,List.take_zero,List.length_cons,List.length_nil,List.cons_append,List.nil_append,List.drop_succ_cons,List.drop_zero]
def s3 (t:Int) (body:List Int):List Int:=t :: ((body.length%256:Nat):Int) :: ((body.length / 256:Nat):Int) :: 0 :: 0 :: 0 :: 0 :: (body ++ (List.replicate (504-body.length) 0 ++ [t]))
def Qv (t:Int) (h:body.length<=504):(s3 t body).length=512:=by simp [s3];omega
def acF (t:Int) (body:List Int) (h:body.length<=504):put (s2 t body.length) 7 body=s3 t body:=by
 unfold s2 s3;have e:(zs 508 ++ [t])=0 :: 0 :: 0 :: 0 :: (zs body.length ++ (zs (504-body.length) ++ [t])):=by
  rw [<-List.append_assoc,<-lU,show body.length+(504-body.length)=504 by omega,ot 507,ot 506,ot 505,ot 504];rfl
 rw [e];simp only [put,List.take_succ_cons,List.take_zero,List.cons_append,List.nil_append];rw [show 7+body.length=body.length+7 by omega];simp only [List.drop_succ_cons];rw [List.drop_left' (bH _)];rfl
def Qw {t:Int} (a:0<=t/\t<256) (b:Bytes body) (h:body.length<=504):Bytes (s3 t body):=
   .cons a (.cons (by omega) (.cons (by omega) (.cons (by omega) (.cons (by omega) (.cons (by omega) (.cons (by omega) (b.append ((Bytes.tE _).append (.cons a .nil)))))))))
def Vj (t:Int) (body:List Int) (h:body.length<=504):xO (s3 t body)=nC body:=by
 unfold xO s3 nC;simp only [List.drop_succ_cons,List.drop_zero,List.take_succ_cons,List.take_zero,List.cons_append,List.nil_append];rw [<-List.append_assoc,List.take_left' (by simp;omega)]
def acG (t:Int) (body:List Int):put (s3 t body) 3 (bB 4 (sumOf (nC body)))=bh t body:=by
 rw [acD];unfold s3 bh;simp only [put,List.take_succ_cons,List.take_zero,oh,List.cons_append,List.nil_append,List.drop_succ_cons,List.drop_zero]
def Zj (l xs:List Int) (o:Nat):splice (bs l) o (bs xs)=bs (put l o xs):=by
 simp [splice,bs,put,List.map_take,List.map_drop]
def Qx (w:World) (m T:TypeId) (g b ib Bf:Nat) (a:Option Addr) (j4 Bg:Nat) (cur l:List Int) (d:j8 w T g cur)
    (i:Src w a j4 l) (f:j4<=ib) (Fr:b+ib<=cur.length):
  ∃w2,(Builtin.copy_ #[22,22] m #[.slice (some (aD g b)) ib Bf, .slice a j4 Bg]).run prog w= .ok (goInt j4) w2/\
   j8 w2 T g (put cur b l)/\aa (λk=>k=g) w w2/\w2.heap.size=w.heap.size:=by
 have p:=i.1;by_cases h0:j4=0
 .refine⟨w,?_,?_,aa.refl _ _,rfl⟩
  .have:=run_copy_none (P:=prog) w 22 22 m 5 (some (aD g b)) a ib Bf j4 Bg underlying22 Do (by rw [h0];exact Nat.zero_min _);rw [h0] at this⊢;exact this
  .have:l= []:=List.eq_nil_of_length_eq_zero (by omega);rw [this,DJ];exact d
 .cases a with
  |none=>have:=i.2.1 rfl;omega
  |some x=>
   have c:(bs l).length=Nat.min j4 ib:=by
    have e:Nat.min j4 ib=j4:=Nat.min_eq_left f;simp only [bs,List.length_map,e];omega
   have bD:=run_copy_row (P:=prog) w 22 22 m 5 g b ib Bf x j4 Bg (bs cur).toArray T (bs l) underlying22 Do d c
      (λj v n=>by
     obtain⟨AZ,rfl⟩:=fx n;rw [i.2.2 x rfl j (by omega)]) (by simp only [List.size_toArray];simp [bs];omega) (cF _)
   have e:(bs l).length=j4:=(by simp only [bs,List.length_map];omega);rw [e] at bD;refine⟨_,bD,?_,⟨rfl,rfl,rfl,by simp,λk _ o=>setRow_other w g k _ o⟩,by simp⟩;unfold j8;rw [setRow_heap w g _ _ T _ d,<-Zj];simp only [splice,List.append_assoc,e]
def acH (t:Int):(bm.setIfInBounds 0 (Value.int .u8 t)).setIfInBounds 511 (Value.int .u8 t)=(bs (s1 t)).toArray:=by
 apply Array.ext';rw [Array.toList_setIfInBounds,Array.toList_setIfInBounds];unfold bm s1;show ((bs (zs 512)).set 0 (Value.int .u8 t)).set 511 (Value.int .u8 t)=bs (t :: (zs 510 ++ [t]));rw [bs,bs,<-List.map_set,<-List.map_set,ot 511,List.set_cons_zero,List.set_cons_succ,lU 510 1];have:=Qu (zs 510) 0 t;rw [bH] at this;have e:zs 1= [0]:=rfl;rw [e,this]
def M9 (h:j8 w T g l):w.rangeAt g 0 (bs l):=by
 intro j v b;obtain⟨a,rfl⟩:=fx b;rw [Nat.zero_add];exact h.cell a
def cH (h:w.heap[g]? =some (.cells cur T (0,0))) (b:cur.size=n):w.there g 0 n:=by
 intro j a;rw [Nat.zero_add];exact⟨by rw [aj h (j:=j) (u:=cur[j]'(by omega)) (by simp [show j<cur.size by omega])];rfl,ae h j⟩
def cP:bm.size=512:=by unfold bm;simp only [List.size_toArray,bs,List.length_map,bH]
def i8 (h:l.length=512):(prog.info? 210).map (·.size)=some (bs l).length:=by
 rw [DM,bs,List.length_map,h]
def ou (t:Nat) (a:Option Addr) (n c:Nat) (body:List Int) (w:World) (A:t<256) (m:Src w a n body) (x:n<=504) (q:Bytes body):
  Calls prog 180 #[.int .u8 (t:Int), .slice a n c] w λe w'=>e= .returned (.agg (bs (bh t body)).toArray)/\bW w w':=by
 obtain⟨H,y,Bl⟩:=kE m ji m.1;have A4:=(λw1=>mr (w.heap.size+1) 0 1 3 w1 (by omega) (by omega));have Bq:=(λw1=>mr (w.heap.size+1) 0 7 511 w1 (by omega) (by omega));have MZ:=(λw1=>mr (w.heap.size+1) 0 3 7 w1 (by omega) (by omega));clear m;go_in;go_wp2_with fail;rw [acH];obtain⟨w1,bO⟩:=bQ ((w.alloc (.cells bm 210)).alloc (.cells (bs (s1 t)).toArray 210));have bN:bW w w1:=by rw [bO];exact((bi _ w).alloc (bS _) _).alloc (by simp) _
 have aV:j8 w1 210 (w.heap.size+1) (s1 t):=by rw [bO];exact heap_alloc2_new _ _ _
 have jp:w1.heap[w.heap.size]? =some (.cells bm 210 (0,0)):=by rw [bO];exact heap_alloc2_old _ _ _
 rw [<-bO];clear bO y;refine(A4 w1).mono ?_;rintro e w' ⟨rfl,b⟩;have eM:=b.symm;subst eM;clear b A4;have d:=DK (w.heap.size+1) 1 2 2 n 210 (s1 t) w1 aV (by omega) (by rw [Zh];omega);rw [acE t n (by omega)] at d;have Zk:=jp;have cQ:=bN;clear aV jp bN;go_wp2_with fail;refine pj d λr aV l eu=>?_;have eR:=cQ.trans (l.below (λj k=>by omega) cQ.size);have jp:=(l.block _ (lR.1 Zk).1 (by omega)).trans Zk;obtain⟨s,bD,Qy,aZ,ly⟩:=Qx r 3 210 (w.heap.size+1) 7 504 504 a n c (s2 t n) body aV (H.later eR) x (by rw [Zi];omega);have jT:=eR.trans (aZ.below (λj k=>by omega) eR.size);have wi:=(aZ.block _ (lR.1 jp).1 (by omega)).trans jp;have g:=acF t body (by omega);rw [Bl] at g;rw [g] at Qy;obtain⟨L1,Qz,gd⟩:=kE Qy wi jT;clear d aV l eR jp aZ jT wi Qy cQ Zk eu ly g;go_wp2_with fail;refine(Bq r).mono ?_;rintro e w' ⟨rfl,b⟩;have eM:=b.symm;subst eM;clear b Bq;go_wp2_with fail;refine(MZ s).mono ?_;rintro e w' ⟨rfl,b⟩;have eM:=b.symm;subst eM;clear b MZ bD;have FT:=Qt (w.heap.size+1) 210 (s3 t body) s L1 (Qv t (by omega)) (Qw (by omega) q (by omega));rw [Vj t body (by omega)] at FT;have v:=np (we q (show body.length<=504 by omega));have i:=acG t body;obtain⟨E,o⟩:=bQ (sumOf (nC body));rw [<-o] at FT v i;have f:=i;clear o i;go_wp2_with fail;refine bM FT λz fw=>?_;have XB:=L1.aw (fw.block _ L1.lt);have rJ:=(fw.block _ (lR.1 Qz).1).trans Qz;have rB:=gd.trans (fw.mono gd.size);have d:=DK (w.heap.size+1) 3 4 4 E 210 (s3 t body) z XB (by omega) (by rw [Qv t (by omega)];omega);rw [f] at d;have QA:=rJ;have jU:=rB;clear FT fw XB rJ rB L1 Qz gd f;go_wp2_with fail;refine pj d λw5 XC dX pL=>?_;have XD:=(dX.block _ (lR.1 QA).1 (by omega)).trans QA;have Jz:=jU.trans (dX.below (λj k=>by omega) jU.size);have jW:(bh t body).length=512:=fv (by omega);have A8:=M9 XC;have ef:=cH XD cP;have aW:=i8 jW;have j5:(bs (bh t body)).length=512:=by rw [bs,List.length_map,jW]
 have dL:=cF (bh t body);generalize p:bs (bh t body)=F at*;rw [<-j5] at ef;have pB:=(World.rangeAt_setCells_same w5 w.heap.size 0 F ef);have bV:=all_oneCell_toArray dL;have A9:=Jz.trans ((aa.setCells (F:=λj=>j=w.heap.size) rfl F 0 w5).below (λj k=>by omega) Jz.size);have u:=p;clear d XC dX pL XD Jz jW QA jU dL p;go_wp2_with (first|refine wpList_load_mid rfl 210 _ rfl (w.heap.size+1) 0 rfl F _ A8 underlying210 rfl aW ?_|refine wpList_store_mid rfl 210 _ _ rfl w.heap.size 0 F.toArray rfl rfl ?h1 ?h2 bV ?_);case h1=>simpa using ef
 case h2=>simpa using aW
 exact bodyPost_ret (gw (P:=prog) rfl _ _ w.heap.size F _ rfl pB underlying210 rfl aW) rfl ⟨by rw [u],A9⟩
def results_cell_tmp {P:Program} {b:Func} {p q:Tmp} (h:b.results= #[.cell p ty, .tmp q]) (a:Array Value) (w:World) (g:Nat) (cs:List Value) (d:TypeDesc) (v:Value)
    (f:a.getD p undef=pQ g) (i:a.getD q undef=v) (c:w.rangeAt g 0 cs) (j:P.underlying ty=some d) (hd:d.isRow=true) (e:(P.info? ty).map (·.size)=some cs.length):
    (results b a).run P w= .ok (.tuple #[.agg cs.toArray,v]) w:=by
 have Y9:a[p]?.getD undef=pQ g:=by simpa using f
 have Zl:a[q]?.getD undef=v:=by simpa using i
 simp [results,h,Y9,Zl,asAddr,run_loadVar_mid w g 0 ty cs d c j hd e]
def nD {b o:Nat} (h:Src w (some (aD b o)) n l):w.rangeAt b o (bs l):=by
 intro j v a;obtain⟨c,rfl⟩:=fx a;have:=h.2.2 _ rfl j (by have:=h.1;omega);rwa [aN] at this
def QB (a:Option Addr) (c:Nat) (w:World):(Instr.arrayAt 210 (.slice a 512 c)).run prog w= .ok (.pointer a) w:=by
 simp [Instr.arrayAt,run_underlying underlying210]
def yR:∀v∈bm.toList,v.oneCell'=true:=cF (zs 512)
def yS:(prog.info? 210).map (·.size)=some bm.toList.length:=i8 (l:=zs 512) (bH 512)
def pM (a:Option Addr) (n c:Nat) (w:World) (d:n≠512):
  Calls prog 215 #[.slice a n c] w λe w'=>e= .returned (.tuple #[.agg bm, .bool false])/\bW w w':=by
 have f:=ji;have h1:(((n:Int)) != 512)=true:=by rw [gA];omega
 have aW:=yS;have dL:=yR;generalize bm=Z at*;have bO:(w.alloc (.cells Z 210)).heap[w.heap.size]? =some (.cells Z 210 (0,0)):=heap_alloc_new _ _;have ef:(w.alloc (.cells Z 210)).there w.heap.size 0 Z.toList.length:=cH bO (by simp);have bV:Z.all Value.oneCell'=true:=all_oneCell_toArray dL;have bN:bW w (w.alloc (.cells Z 210)):=(bi _ w).alloc (bS _) _;go_in;go_wp2_with (refine wpList_store_mid rfl 210 _ _ rfl w.heap.size 0 Z rfl rfl ?h1 ?h2 bV ?_);case h1=>simpa using ef
 case h2=>simpa using aW
 exact bodyPost_ret (results_cell_tmp (P:=prog) rfl _ _ w.heap.size Z.toList _ _ rfl rfl (World.rangeAt_setCells_same _ w.heap.size 0 Z.toList ef) underlying210 rfl aW) rfl ⟨rfl,bN.trans ((aa.setCells (F:=λj=>j=w.heap.size) rfl Z.toList 0 _).below (λj b=>by omega) bN.size)⟩
def mt (b o c:Nat) (l:List Int) (w:World) (a:Src w (some (aD b o)) 512 l):
  Calls prog 215 #[.slice (some (aD b o)) 512 c] w λe w'=>e= .returned (.tuple #[.agg (bs l).toArray, .bool true])/\bW w w':=by
 have f:=ji;have Zm:=QB (some (aD b o)) c;have bN:bW w (w.alloc (.cells bm 210)):=(bi _ w).alloc (bS _) _;have A8:=nD (a.later bN);have aW:=i8 (l:=l) a.1;have dL:=cF l;have bO:(w.alloc (.cells bm 210)).heap[w.heap.size]? =some (.cells bm 210 (0,0)):=heap_alloc_new _ _;have ef:=cH bO cP;have j5:(bs l).length=512:=by rw [bs,List.length_map,a.1]
 generalize bs l=F at*;rw [<-j5] at ef;have pB:=(World.rangeAt_setCells_same _ w.heap.size 0 F ef);have bV:=all_oneCell_toArray dL;have A9:=(bN.trans ((aa.setCells (F:=λj=>j=w.heap.size) rfl F 0 _).below (λj d=>by omega) bN.size));go_in;go_wp2_with (first|refine wpList_load_mid rfl 210 _ rfl b o rfl F _ A8 underlying210 rfl aW ?_|refine wpList_store_mid rfl 210 _ _ rfl w.heap.size 0 F.toArray rfl rfl ?h1 ?h2 bV ?_);case h1=>simpa using ef
 case h2=>simpa using aW
 exact bodyPost_ret (results_cell_tmp (P:=prog) rfl _ _ w.heap.size F _ _ rfl rfl pB underlying210 rfl aW) rfl ⟨rfl,A9⟩
def xS (w:World) (B:Nat) (v:Value) (l:List Int):Prop:=∃a c,v= .slice a l.length c/\Src w a l.length l/\l.length<=c/\∀x,a=some x->B<=x.block
def xS.nil (w:World) (B:Nat):xS w B (.slice none 0 0) []:=⟨none,0,rfl,⟨rfl,λ_=>rfl,λx a=>by cases a⟩,bS _,λx a=>by cases a⟩
def xS.later {B:Nat} (h:xS w B v l) (b:bW w w'):xS w' B v l:=by
 obtain⟨a,c,rfl,e,d,f⟩:=h;exact⟨a,c,rfl,e.later b,d,f⟩
def j8.lst {B:Nat} (h:j8 w T g l) (a:B<=g):xS w B (.slice (some (aD g 0)) l.length l.length) l:=by
 refine⟨some (aD g 0),l.length,rfl,?_,bS _,λx b=>by cases b;exact a⟩;have:=h.src (o:=0) (n:=l.length) (by omega);simpa using this
def sj:∀(c b:List Value) (cur:Array Value),w.heap[g]? =some (.cells cur T (0,0))->(∃a,cur.toList=b ++ a/\a.length=c.length)->
    (w.setCells g b.length c).heap[g]? =some (.cells (b ++ c).toArray T (0,0)):=by
 intro c
 induction c generalizing w with
 |nil=>
  intro b cur i ⟨a,d,f⟩;have:a= []:=List.eq_nil_of_length_eq_zero f;subst this;simp only [List.append_nil] at d⊢;show w.heap[g]? =_;rw [i,<-d]
 |cons v r j=>
  intro b cur i ⟨a,d,f⟩;cases a with
  |nil=>simp at f
  |cons u a=>
   have e:(cur.setIfInBounds b.length v).toList=(b ++ [v]) ++ a:=by
    rw [Array.toList_setIfInBounds,d,List.set_append_right _ _ (bS _),Nat.sub_self];simp
   have:=j (w:=w.setCell ⟨g,b.length,none⟩ v) (b ++ [v]) _ (heap_setCell_same w g b.length cur T v i) ⟨a,e,by simpa using f⟩;simp only [World.setCells];simpa using this
def eJ (a:w.heap[g]? =some (.cells cur T (0,0))) (b:cur.size=l.length):j8 (w.setCells g 0 (bs l)) T g l:=
 sj (bs l) [] cur a ⟨cur.toList,rfl,by simp [bs,b]⟩
def QC (a:Option Addr) (n c:Nat) (b:Option Addr) (m d:Nat) (w:World) (f:n≠512):
  Calls prog 233 #[.slice a n c, .slice b m d] w λe w'=>e= .returned (.tuple #[.slice none 0 0,iV 2])/\bW w w':=by
 obtain⟨k,g,aW,dL⟩:=cO ji (pM a n c w f) yS yR;generalize bm=Z at*;have bV:Z.all Value.oneCell'=true:=all_oneCell_toArray dL;go_in;go_wp2_with fail;refine bM g λw1 ar=>?_;have bO:(w1.alloc (.cells Z 210)).heap[w1.heap.size]? =some (.cells Z 210 (0,0)):=heap_alloc_new _ _;have ef:(w1.alloc (.cells Z 210)).there w1.heap.size 0 Z.toList.length:=cH bO (by simp);have bN:bW w (w1.alloc (.cells Z 210)):=ar.alloc ar.size _;have eE:=ar.size;have A9:=(bN.trans ((aa.setCells (F:=λj=>j=w1.heap.size) rfl Z.toList 0 _).below (λj i=>by omega) bN.size));go_wp2_with (refine wpList_store_mid rfl 210 _ _ rfl w1.heap.size 0 Z rfl rfl ?h1 ?h2 bV ?_);case h1=>simpa using ef
 case h2=>simpa using aW
 go_ret2;exact⟨rfl,A9⟩
def QD (b o c:Nat) (old:List Int) (d:Option Addr) (m f:Nat) (w:World) (a:Src w (some (aD b o)) 512 old) (i:504<m):
  Calls prog 233 #[.slice (some (aD b o)) 512 c, .slice d m f] w λe w'=>e= .returned (.tuple #[.slice none 0 0,iV 7])/\bW w w':=by
 have k:=ji;have hm':504<(m:Int):=by omega
 have eh:=mt b o c old w a;have aW:=i8 (l:=old) a.1;have dL:=cF old;have j5:(bs old).length=512:=by rw [bs,List.length_map,a.1]
 generalize bs old=F at*;have bV:=all_oneCell_toArray dL;go_in;go_wp2_with fail;refine bM eh λw1 ar=>?_;have bO:(w1.alloc (.cells bm 210)).heap[w1.heap.size]? =some (.cells bm 210 (0,0)):=heap_alloc_new _ _;have ef:=cH bO cP;rw [<-j5] at ef;have bN:bW w (w1.alloc (.cells bm 210)):=ar.alloc ar.size _;have eE:=ar.size;have A9:=yh (bN.trans ((aa.setCells (F:=λj=>j=w1.heap.size) rfl F 0 _).below (λj g=>by omega) bN.size));go_wp2_with (refine wpList_store_mid rfl 210 _ _ rfl w1.heap.size 0 F.toArray rfl rfl ?h1 ?h2 bV ?_);case h1=>simpa using ef
 case h2=>simpa using aW
 go_ret2;exact⟨rfl,A9.out⟩
def Vk (b o c:Nat) (old:List Int) (f:Option Addr) (m q:Nat) (body:List Int) (w:World) (d:Src w (some (aD b o)) 512 old) (bo:Src w f m body) (y:m<=504) (v:Bytes body):
  Calls prog 233 #[.slice (some (aD b o)) 512 c, .slice f m q] w λe w'=>∃g,e= .returned (.tuple #[.slice (some (aD g 0)) 512 512,iV 0])/\j8 w' 210 g (bh (cG (old.getD 0 0) (old.getD 511 0)) body)/\w.heap.size<=g/\bW w w':=by
 obtain⟨A,eh,aW,dL⟩:=cO ji (mt b o c old w d) (i8 (l:=old) d.1) (cF old);have j5:(bs old).length=512:=by rw [bs,List.length_map,d.1]
 obtain⟨acJ,bV,p,Bl,z⟩:=eK d.1 (all_oneCell_toArray dL) (yh bo) bo.1 (gu (old.getD 0 0) (old.getD 511 0));obtain⟨t,xp⟩:=bQ (cG (old.getD 0 0) (old.getD 511 0));rw [<-xp] at z;obtain⟨F,k⟩:=bQ (bs old);rw [<-k] at eh aW dL j5 bV;clear dL d bo;go_in;go_wp2_with fail;refine bM eh λw1 ar=>?_;have bO:(w1.alloc (.cells bm 210)).heap[w1.heap.size]? =some (.cells bm 210 (0,0)):=heap_alloc_new _ _;have ef:=cH bO cP;rw [<-j5] at ef;have bN:bW w (w1.alloc (.cells bm 210)):=ar.alloc ar.size _;have eE:=ar.size;have eR:=bN.trans ((aa.setCells (F:=λj=>j=w1.heap.size) rfl F 0 _).below (λj x=>by omega) bN.size);have aV:=eJ (l:=old) bO (by rw [cP,acJ]);rw [<-k] at aV;have JA:=oo w1.heap.size 0 (old.getD 0 0) (old.getD 511 0) _ (aV.cell (by omega)) (aV.cell (i:=511) (by omega));rw [<-xp] at JA;have xq:=ou t f m q body _ (by omega) (p.o.later eR) y v;obtain⟨C,dE⟩:=bQ ((w1.alloc (.cells bm 210)).setCells w1.heap.size 0 F);rw [<-dE] at JA xq eR;obtain⟨dP,QE⟩:=bU eR xp;clear eh bO bN ar aV eR xp k p;go_wp2_with (refine wpList_store_mid rfl 210 _ _ rfl w1.heap.size 0 F.toArray rfl rfl ?h1 ?h2 bV ?_);case h1=>simpa using ef
 case h2=>simpa using aW
 rw [<-dE];refine bM JA λw' r=>?_;have eM:=r.symm;subst eM;clear r JA ef dE bV aW;have jW:(bh t body).length=512:=fv (by omega);have aW:=i8 (l:=bh t body) jW;have bV:=all_oneCell_toArray (cF (bh t body));have DN:(bs (bh t body)).length=512:=by rw [bs,List.length_map,jW]
 obtain⟨G,n⟩:=bQ (bs (bh t body));rw [<-n] at xq aW bV DN;have s:=yh n;clear n;go_wp2_with fail;refine bM xq λa bF=>?_;have jT:=dP.o.trans (bF.mono dP.o.size);have eG:(a.alloc (.cells bm 210)).heap[a.heap.size]? =some (.cells bm 210 (0,0)):=heap_alloc_new _ _;have ef:=cH eG cP;rw [<-DN] at ef;have aV:=eJ (l:=bh t body) eG (by rw [cP,jW]);rw [<-s.o] at aV;have Fz:=jT.size;have rB:bW w (a.alloc (.cells bm 210)):=jT.alloc jT.size _;rw [QE.o] at aV;have u:=yh (aH aV (aH jT.size (rB.trans ((aa.setCells (F:=λj=>j=a.heap.size) rfl G 0 _).below (λj x=>by omega) rB.size))));clear xq jT eG aV rB bF dP;go_wp2_with (refine wpList_store_mid rfl 210 _ _ rfl a.heap.size 0 G.toArray rfl rfl ?h1 ?h2 bV ?_);case h1=>simpa using ef
 case h2=>simpa using aW
 go_ret2;exact⟨a.heap.size,rfl,u.o⟩
def co {b:Array Oper} {rest:List Oper} {o:Oper} {a:Act} {Q:Exit->Act->World->Prop} (FU:o.guard=none) (s x:Operand)
    (me:o.op=Op.call {callee:=Callee.builtin Builtin.append,args:= #[s,x],argTypes:= #[22,22]})
    (B:Nat) (v:Value) (l:List Int) (y:Int) (m:a.eval s=v) (n:a.eval x= .slice (some (aD w.heap.size 0)) 1 1) (aA:Own w B v l) (d:l.length<=140737488355327) (i:B<=w.heap.size)
    (j:∀c w',Own w' B c (l ++ [y])->Below B w w'->wpList prog b Q rest (a.put o.dst c) w'):
  wpList prog b Q (o :: rest) a (w.alloc (.cells #[.int .u8 y] 5)):=by
 obtain⟨p,k,gB,dC,eu⟩:=info_parts gh;have f:w.ownsRow B 5 1 v l.length (bs l):=aA;refine wpList_append_own _ FU s x 22 me B 5 p (.int .u8 0) 1 1 underlying22 k gB dC eu rfl (by decide) v l.length (bs l) m (f.alloc _) (aD w.heap.size 0) 1 1 [.int .u8 y] n rfl (cell_one_new _ _ _) (by intro u g;simp at g;subst g;rfl) (by unfold maxLen;omega) (by omega) (by simp;omega) ?_;intro c w1 cM k9 _;refine j c w1 ?_ (((bi _ w).alloc i _).grown k9 (by simp;omega) (λq e=>(f.lt q e).1));rw [Vh] at cM;exact DI cM (by simp) rfl
def acK:Value->Nat
 | .slice _ n _=>n
 |_=>0
def Own.Vl {B:Nat} (h:Own w B v l) (h0:0<l.length):∃g c,v= .slice (some (aD g 0)) l.length c/\B<=g/\ay w 5 g c (bs l):=by
 obtain⟨a,c,rfl,_,_,_⟩:=h.src;obtain⟨g,rfl,_,b,d⟩:=h.row h0;exact⟨g,c,rfl,b,d⟩
def ay.get (h:ay w e g c (bs l)) (a:i<l.length):w.cell? (aD g i)=some (.int .u8 (l.getD i 0)):=by
 have:=h.byte a;rwa [aN,Nat.zero_add] at this
def Bu (a b:List Int) (x:Int):a ++ b ++ [x]=a ++ (b ++ [x]):=List.append_assoc _ _ _
def Vm (k:Nat):zs k ++ [0]=zs (k+1):=by rw [lU];rfl
def Cs (t:Nat) (a:Option Addr) (n c:Nat) (body:List Int) (w:World) (ht:t<256) (hs:Src w a n body) (hn:n<=504) (hb:Bytes body):
  Calls prog 214 #[iV (t:Int), .slice a n c] w λe w'=>∃v,e= .returned v/\Own w' w.heap.size v (bh t body)/\bW w w':=by
 have H:=yh hs;have Bl:=hs.1;have q1:((n:Int)).tmod 256=((n%256:Nat):Int):=by rw [Int.tmod_eq_emod_of_nonneg (by omega)];omega
 have q2:((n:Int)).tdiv 256=((n / 256:Nat):Int):=by rw [Int.tdiv_eq_ediv_of_nonneg (by omega)];omega
 clear hs;go_in;go_wp2_with (at_builtin;refine co rfl _ _ rfl w.heap.size _ [] _ rfl rfl (Own.nil w _) ?b1 ?b2 ?_);case b1=>simp
 case b2=>exact bS _
 intro v1 w1 tG ar;have dC:=ar.size;have I:=yh tG;have cQ:=yh ar;clear tG ar;go_wp2_with (at_builtin;refine co rfl _ _ rfl w.heap.size v1 _ _ rfl rfl I.o ?b1 ?b2 ?_);case b1=>simp
 case b2=>exact dC
 intro v2 w2 jv bd;have acL:Own w2 w.heap.size v2 ([((n%256:Nat):Int),((n / 256:Nat):Int)] ++ body.take 0):=jv;obtain⟨A,dP⟩:=bU acL (cQ.o.trans (bd.mono (bS _)));obtain⟨hd,y⟩:∃hd,hd= [((n%256:Nat):Int),((n / 256:Nat):Int)]:=⟨_,rfl⟩;have qN:hd.length=2:=by rw [y];rfl
 rw [<-y] at A;have G:=yh y;clear jv acL bd y I cQ dC q1 q2;go_wp2;go_loopw [5,6] (λv i wr=>∃k:Nat,k<=n/\i=iV k/\Own wr w.heap.size v (hd ++ body.take k)/\bW w wr) (λ_ i _=>n-(intOf i).toNat);case atStart=>exact⟨0,dV _,rfl,A.o,dP.o⟩
 case round=>
  clear A dP;obtain⟨k,hk,rfl,aA,ev⟩:=hrel;have bt:=yh aA;have f:=yh ev;have r:=ev.size;clear aA ev;by_cases bq:k<n
  .have cC:(k:Int)<(n:Int):=(by omega);obtain⟨x0,rfl⟩:∃x,a=some x:=by
    cases a with
    |none=>have:=H.o.2.1 rfl;omega
    |some x=>exact⟨x,rfl⟩
   obtain⟨b,o,rfl,db⟩:=H.o.spot (by omega);have hc:=cell_later f.o (db k bq);have Ct:=yh (j7 body k (by omega));clear db;generalize body.getD k 0=x at*;go_wp2_with (at_builtin;refine co rfl _ _ rfl w.heap.size u5 _ x rfl rfl bt.o ?b1 ?b2 ?_);case b1=>simp;omega
   case b2=>exact r
   intro z w' p eH;have u:Yh (Own w' w.heap.size z (hd ++ body.take (k+1))):=(by rw [<-Ct.o];exact p);have xr:=yh (f.o.trans (eH.mono (bS _)));clear p eH bt f Ct;go_wp2;go_roundw;case rel=>exact⟨k+1,by omega,by go_num,u.o,xr.o⟩
   case measure=>simp [intOf];omega
  .have cC:¬(k:Int)<(n:Int):=(by omega);have e:body.take k=body:=nr (by omega);rw [e] at bt;clear e;have i6:Yh (Own wr w.heap.size u5 (hd ++ body ++ zs 0)):=(by show Own wr w.heap.size u5 (hd ++ body ++ []);rw [List.append_nil];exact bt.o);obtain⟨T,hT⟩:=bQ (hd ++ body);have U:T.length=2+n:=(by rw [hT];simp;omega);rw [<-hT] at i6;have HT:=yh hT;clear hT bt;go_wp2;go_loopw [5] (λv wr=>∃k:Nat,k<=504-n/\Own wr w.heap.size v (T ++ zs k)/\bW w wr) (λv _=>506-acK v);case atStart=>exact⟨0,dV _,i6.o,f.o⟩
   case round=>
    clear i6 f r;obtain⟨j,hj,aA,ev⟩:=hrel;obtain⟨L,D,rfl,_,_,_⟩:=aA.src;have d:(T ++ zs j).length=2+n+j:=(by rw [ed,bH,U]);rw [d] at aA;have bt:=yh aA;have f:=yh ev;have r:=ev.size;clear aA ev;rw [d];by_cases hlj:j<504-n
    .have ahI:((2+n+j:Nat):Int)<506:=(by omega);obtain⟨N,hN⟩:=bQ (2+n+j);rw [<-hN] at ahI d bt⊢;have HN:=yh hN;clear hN;go_wp2_with (at_builtin;refine co rfl _ _ rfl w.heap.size (.slice L N D) _ 0 rfl rfl bt.o ?b1 ?b2 ?_);case b1=>omega
     case b2=>exact r
     intro z w' p eH;have u:Yh (Own w' w.heap.size z (T ++ zs (j+1))):=(by rw [<-Vm,<-Bu];first|exact p|(rw [List.append_assoc];exact p));have xr:=yh (f.o.trans (eH.mono (bS _)));clear p eH bt f;go_wp2;go_roundw;case rel=>exact⟨j+1,by omega,u.o,xr.o⟩
     case measure=>
      obtain⟨a1,W,rfl,_,_,_⟩:=u.o.src;have:(T ++ zs (j+1)).length=2+n+(j+1):=(by rw [ed,bH,U]);have hN:=HN.o;simp only [acK,this];omega
    .obtain rfl:j=504-n:=(by omega);have e6:2+n+(504-n)=506:=(by omega);rw [e6] at bt d⊢;have eT:T ++ zs (504-n)=nC body:=by
      rw [HT.o,G.o,<-Bl];simp [nC,zs]
     rw [eT] at bt d;have QF:=we hb (by omega);have O:=np QF;obtain⟨E,Z⟩:=bQ (sumOf (nC body));obtain⟨X,F⟩:=bQ (nC body);have XE:X.drop 2=body ++ zs (504-n):=(by rw [F,<-Bl];simp [nC,zs]);have rC:X.getD 0 0=((n%256:Nat):Int):=(by rw [F,<-Bl];rfl);have jI:X.getD 1 0=((n / 256:Nat):Int):=(by rw [F,<-Bl];rfl);have jH:bh t body= [(t:Int),X.getD 0 0,X.getD 1 0] ++ bB 4 E ++ X.drop 2 ++ [(t:Int)]:=by
      rw [XE,rC,jI,Z,acD,<-Bl];simp [bh,zs]
     rw [<-F] at bt d QF;rw [<-Z] at O;have kW:=yh jH;have XF:E=sumOf X:=(by rw [Z,F]);clear jH XE rC jI Z F eT e6 HT G;have QG:=bt.o;rw [<-d] at QG;obtain⟨g,ct,wj,hgB,be⟩:=Own.Vl (l:=X) QG (by omega);have hae:L=some (aD g 0):=(by cases wj;rfl);have hce:D=ct:=(by cases wj;rfl);subst hae;subst hce;have hq:=Qo (some (aD g 0)) 506 D X wr QF (by omega) (by have:=be.src;rw [d] at this;exact this);rw [<-XF] at hq;have u9:=yh be;clear QG wj be bt XF QF hlj;go_wp2_with fail;refine bM hq λq bF=>?_;have rK:=u9.o.agree (bF.block g u9.o.lt);have jT:=f.o.trans (bF.mono f.o.size);have ly:=jT.size;have c0:=rK.get (i:=0) (by omega);have W:=rK.get (i:=1) (by omega);have XG:=yh rK;have gd:=yh jT;clear hq bF rK jT u9 f r;obtain⟨x0,rC⟩:=bQ (X.getD 0 0);obtain⟨x1,jI⟩:=bQ (X.getD 1 0);rw [<-rC] at c0;rw [<-jI] at W;rw [<-rC,<-jI] at kW;clear rC jI;go_wp2_with (at_builtin;refine co rfl _ _ rfl q.heap.size (.slice none 0 0) [] (t:Int) rfl rfl (Own.nil q _) ?b1 ?b2 ?_);case b1=>simp
     case b2=>exact(bS q.heap.size)
     intro v4 w4 Fg fw;obtain⟨J,jU,wk,d0,d1⟩:=eK (yh Fg) (yh fw) fw.size (cell_later fw c0) (cell_later fw W);clear Fg fw c0 W;go_wp2_with (at_builtin;refine co rfl _ _ rfl q.heap.size v4 _ x0 rfl rfl J.o ?b1 ?b2 ?_);case b1=>simp
     case b2=>exact wk
     intro v5 w5 Bv fa;have K:=yh Bv;have jq:=yh (jU.o.trans (fa.mono (bS _)));have d1':=(World.cell?_of_block (fa.block g XG.o.lt)).trans d1;clear Bv fa d0 d1 J jU wk;go_wp2_with (at_builtin;refine co rfl _ _ rfl q.heap.size v5 _ x1 rfl rfl K.o ?b1 ?b2 ?_);case b1=>simp
     case b2=>exact jq.o.size
     intro v6 w6 XH nE;have C:Yh (Own w6 q.heap.size v6 ([(t:Int),x0,x1] ++ bB 0 E)):=XH;have xu:=yh (jq.o.trans (nE.mono (bS _)));clear XH nE d1' K jq;obtain⟨P,hP⟩:∃P,P= [(t:Int),x0,x1]:=⟨_,rfl⟩;have S:P.length=3:=(by rw [hP];rfl);rw [<-hP] at C kW;clear hP;go_wp2;go_loopw [7,8,9] (λs v i wx=>∃m:Nat,m<=4/\i=iV m/\s=iV ((E / 256 ^ m:Nat):Int)/\Own wx q.heap.size v (P ++ bB m E)/\bW q wx) (λ_ _ i _=>4-(intOf i).toNat);case atStart=>exact⟨0,dV _,rfl,by simp,C.o,xu.o⟩
     case round=>
      clear C xu;obtain⟨m,hm,rfl,rfl,aA,iq⟩:=hrel;have bt:=yh aA;have f:=yh iq;have r:=iq.size;clear aA iq;by_cases xQ:m<4
      .have Br:(m:Int)<4:=(by omega);have e1:E / 256 ^ (m+1)=E / 256 ^ m / 256:=(by rw [Nat.div_div_eq_div_mul,Nat.pow_succ]);have e2:=i7 m E;rw [show (2:Nat) ^ (8*m)=256 ^ m by rw [Nat.pow_mul]] at e2;have hQ:E / 256 ^ m<4294967296:=Nat.lt_of_le_of_lt (Nat.div_le_self _ _) O;generalize E / 256 ^ m=Q at*;have q1:((Q:Int)).tmod 256=((Q%256:Nat):Int):=(by rw [Int.tmod_eq_emod_of_nonneg (by omega)];omega);have q2:((Q:Int)).tdiv 256=((Q / 256:Nat):Int):=(by rw [Int.tdiv_eq_ediv_of_nonneg (by omega)];omega);obtain⟨Po,L3⟩:=bU e1 e2;have j5:(P ++ bB m E).length=3+m:=(by rw [ed,S,aK]);clear e1 e2;go_wp2_with (at_builtin;refine co rfl _ _ rfl q.heap.size u8 _ _ rfl rfl bt.o ?b1 ?b2 ?_);case b1=>omega
       case b2=>exact r
       intro z w' p eH;have u:Yh (Own w' q.heap.size z (P ++ bB (m+1) E)):=(by rw [L3.o];first|exact p|(rw [<-List.append_assoc];exact p));have xr:=yh (f.o.trans (eH.mono (bS _)));clear p eH bt f L3;go_wp2;go_roundw;case rel=>exact⟨m+1,by omega,by go_num,by rw [Po.o];simp,u.o,xr.o⟩
       case measure=>simp [intOf];omega
      .have Br:¬(m:Int)<4:=(by omega);obtain rfl:m=4:=(by omega);obtain⟨R,hR⟩:=bQ (P ++ bB 4 E);have hRl:R.length=7:=(by rw [hR,ed,S,aK]);rw [<-hR] at bt kW;have i6:Yh (Own wr q.heap.size u8 (R ++ (X.drop 2).take 0)):=(by show Own wr q.heap.size u8 (R ++ []);rw [List.append_nil];exact bt.o);clear hR bt hm;go_wp2;go_loopw [8,10] (λv i wx=>∃m:Nat,m<=504/\i=iV ((m+2:Nat):Int)/\Own wx q.heap.size v (R ++ (X.drop 2).take m)/\bW q wx) (λ_ i _=>506-(intOf i).toNat);case atStart=>exact⟨0,dV _,rfl,i6.o,f.o⟩
       case round=>
        clear i6 f r;obtain⟨m,hm,rfl,aA,iq⟩:=hrel;have bt:=yh aA;have f:=yh iq;have r:=iq.size;clear aA iq;have Na:(X.drop 2).length=504:=(by simp;omega);have j5:(R ++ (X.drop 2).take m).length=7+m:=(by rw [ed,hRl,List.length_take];omega);by_cases xQ:m<504
        .have Br:((m+2:Nat):Int)<506:=(by omega);have hcx:=cell_later f.o (XG.o.get (i:=m+2) (by omega));have eN:=j7 (X.drop 2) m (by omega);have eX:(X.drop 2).getD m 0=X.getD (m+2) 0:=(by simp [List.getD,Nat.add_comm]);rw [eX] at eN;have Ct:=yh eN;clear eN eX;generalize X.getD (m+2) 0=x at*;generalize hM:m+2=M at*;have HM:=yh hM;clear hM;go_wp2_with (at_builtin;refine co rfl _ _ rfl q.heap.size u8 _ x rfl rfl bt.o ?b1 ?b2 ?_);case b1=>omega
         case b2=>exact r
         intro z w' p eH;have u:Yh (Own w' q.heap.size z (R ++ (X.drop 2).take (m+1))):=(by rw [<-Ct.o];first|exact p|(rw [<-List.append_assoc];exact p));have xr:=yh (f.o.trans (eH.mono (bS _)));clear p eH bt f Ct;go_wp2;go_roundw;case rel=>exact⟨m+1,by omega,by have:=HM.o;subst this;go_num,u.o,xr.o⟩
         case measure=>have:=HM.o;simp [intOf];omega
        .obtain rfl:m=504:=(by omega);have e5:(X.drop 2).take 504=X.drop 2:=nr (by omega);rw [e5] at bt j5;obtain⟨Y,hY⟩:=bQ (R ++ X.drop 2);rw [<-hY] at bt j5 kW;clear hY e5;go_wp2_with (at_builtin;refine co rfl _ _ rfl q.heap.size u8 _ (t:Int) rfl rfl bt.o ?b1 ?b2 ?_);case b1=>omega
         case b2=>exact r
         intro z w' p eH;have u:Yh (Own w' w.heap.size z (bh t body)):=(by rw [kW.o];exact Own.down p ly);have xr:Yh (bW w w'):=gd.o.trans ((f.o.trans (eH.mono (bS _))).mono ly);clear p eH bt f;go_wp2;go_ret;exact⟨_,rfl,u.o,xr.o⟩
def JB {a b:Int}:∀k:Nat,k<cG a b->(k:Int)=a\/(k:Int)=b:=by
 intro k c;unfold cG at c;split at c
 .omega
 .split at c
  .next h1 h2=>omega
  .next h1 h2=>omega
def Nb (a:Option Addr) (n c:Nat) (b:Option Addr) (m d:Nat) (w:World) (g:n≠512):
  Calls prog 174 #[.slice a n c, .slice b m d] w λe w'=>e= .returned (.tuple #[.slice none 0 0,iV 2])/\w'=w:=by
 have f:(((n:Int)) != 512)=true:=by rw [gA];omega
 go_in;go_wp2;go_ret2;exact⟨rfl,rfl⟩
def Nc (a:Option Addr) (c:Nat) (b:Option Addr) (m d:Nat) (w:World) (f:504<m):
  Calls prog 174 #[.slice a 512 c, .slice b m d] w λe w'=>e= .returned (.tuple #[.slice none 0 0,iV 7])/\w'=w:=by
 have hm':504<(m:Int):=by omega
 go_in;go_wp2;go_ret2;exact⟨rfl,rfl⟩
def QH (b o c:Nat) (old:List Int) (d:Option Addr) (m l:Nat) (body:List Int) (w:World) (n:Src w (some (aD b o)) 512 old) (bo:Src w d m body) (C:m<=504) (u:Bytes body) (L4:Bytes old):
  Calls prog 174 #[.slice (some (aD b o)) 512 c, .slice d m l] w λe w'=>∃v,e= .returned (.tuple #[v,iV 0])/\Own w' w.heap.size v (bh (cG (old.getD 0 0) (old.getD 511 0)) body)/\bW w w':=by
 have hm':¬504<(m:Int):=by omega
 have j:=n.2.2 _ rfl 0 (by omega);have r:=n.2.2 _ rfl 511 (by omega);rw [aN] at j r;rw [Nat.add_zero] at j;have A:=gu (old.getD 0 0) (old.getD 511 0);have q:=(JB (a:=old.getD 0 0) (b:=old.getD 511 0));have g:=(Cj (old.getD 0 0) (old.getD 511 0));have z:=(λt (E:t<256)=>Cs t d m l body w E bo C u);obtain⟨H,I⟩:=L4.getD 0;obtain⟨J,K⟩:=L4.getD 511;generalize old.getD 0 0=x at*;generalize old.getD 511 0=y at*;generalize cG x y=t at*;go_in;go_wp2;go_loopw [6] (λi wr=>∃k:Nat,k<=t/\i=iV k/\wr=w) (λi _=>t-(intOf i).toNat);case atStart=>exact⟨0,dV _,rfl,rfl⟩
 case round=>
  obtain⟨k,G,rfl,rfl⟩:=hrel;by_cases bq:k<t
  .by_cases f:(k:Int)=x
   .have p:(x == (k:Int))=true:=(by rw [beq_iff_eq];exact f.symm);go_wp2;go_roundw;case rel=>exact⟨k+1,by omega,by go_num,trivial⟩
    case measure=>simp [intOf];omega
   .have s:=(q k bq).resolve_left f;have p:(x == (k:Int))=false:=(by rw [fJ];exact λh=>f h.symm);have F:(y == (k:Int))=true:=(by rw [beq_iff_eq];exact s.symm);go_wp2;go_roundw;case rel=>exact⟨k+1,by omega,by go_num,trivial⟩
    case measure=>simp [intOf];omega
  .obtain rfl:k=t:=(by omega);have p:(x == (k:Int))=false:=(by rw [fJ];exact λh=>g.1 h.symm);have F:(y == (k:Int))=false:=(by rw [fJ];exact λh=>g.2 h.symm);go_wp2_with fail;refine(z k (by omega)).mono ?_;rintro e w1 ⟨v,rfl,D,ar⟩;go_wp2;go_ret2;exact⟨v,rfl,aH D ar⟩
def cX {a:Option Addr} (h:Src w a n l) (c:0<n):∃b o,a=some (aD b o):=by
 cases a with
 |none=>have:=h.2.1 rfl;omega
 |some x=>
  obtain⟨b,o,rfl,_⟩:=h.spot c;exact⟨b,o,rfl⟩
def QI (a:Option Addr) (n c:Nat) (old:List Int) (d:Option Addr) (m f:Nat) (body:List Int) (w:World) (i:Src w a n old) (bo:Src w d m body) (k:Bytes body):
  Calls prog 233 #[.slice a n c, .slice d m f] w λe w'=>∃v,e= .returned (.tuple #[v,iV (((gv old body).2:Nat):Int)])/\xS w' w.heap.size v (gv old body).1/\bW w w':=by
 have r:=i.1;have s:=bo.1;by_cases j:n=512
 .subst j;obtain⟨b,o,rfl⟩:=cX i (by omega);by_cases q:504<m
  .refine(QD b o c old d m f w i q).mono ?_;rintro e w' ⟨rfl,iP⟩;have e:gv old body=([],7):=(by unfold gv;rw [aB (by omega),aG (by omega)]);rw [e];exact⟨_,rfl,xS.nil _ _,iP⟩
  .refine(Vk b o c old d m f body w i bo (by omega) k).mono ?_;rintro e w' ⟨g,rfl,aV,l,iP⟩;have e:gv old body=(bh (cG (old.getD 0 0) (old.getD 511 0)) body,0):=(by unfold gv;rw [aB (by omega),aB (by omega)]);rw [e];have p:(bh (cG (old.getD 0 0) (old.getD 511 0)) body).length=512:=fv (by omega);have:=aV.lst l;rw [p] at this;exact⟨_,rfl,this,iP⟩
 .refine(QC a n c d m f w j).mono ?_;rintro e w' ⟨rfl,iP⟩;have e:gv old body=([],2):=by unfold gv;rw [aG (by omega)]
  rw [e];exact⟨_,rfl,xS.nil _ _,iP⟩
def qO (a:Option Addr) (n c:Nat) (old:List Int) (d:Option Addr) (m f:Nat) (body:List Int) (w:World) (g:Src w a n old) (bo:Src w d m body) (j:Bytes body) (L4:Bytes old):
  Calls prog 174 #[.slice a n c, .slice d m f] w λe w'=>∃v,e= .returned (.tuple #[v,iV (((gv old body).2:Nat):Int)])/\Own w' w.heap.size v (gv old body).1/\bW w w':=by
 have p:=g.1;have q:=bo.1;by_cases i:n=512
 .subst i;obtain⟨b,o,rfl⟩:=cX g (by omega);by_cases k:504<m
  .refine(Nc (some (aD b o)) c d m f w k).mono ?_;rintro e w' ⟨rfl,rfl⟩;have e:gv old body=([],7):=(by unfold gv;rw [aB (by omega),aG (by omega)]);rw [e];exact⟨_,rfl,Own.nil _ _,bi _ _⟩
  .refine(QH b o c old d m f body w g bo (by omega) j L4).mono ?_;rintro e w' ⟨v,rfl,l,iP⟩;have e:gv old body=(bh (cG (old.getD 0 0) (old.getD 511 0)) body,0):=(by unfold gv;rw [aB (by omega),aB (by omega)]);rw [e];exact⟨_,rfl,l,iP⟩
 .refine(Nb a n c d m f w i).mono ?_;rintro e w' ⟨rfl,rfl⟩;have e:gv old body=([],2):=by unfold gv;rw [aG (by omega)]
  rw [e];exact⟨_,rfl,Own.nil _ _,bi _ _⟩
def QJ (a b:Option Addr) (n m c d:Nat) (w:World) (h:n≠m):
  Calls prog 226 #[.slice a n c, .slice b m d] w λe w'=>e= .returned (.bool false)/\w'=w:=by
 have f:(((n:Int)) != (m:Int))=true:=by rw [gA];omega
 go_in;go_wp2;go_ret;exact⟨rfl,rfl⟩
def Nd (b o m p:Nat) (n c d:Nat) (l a:List Int) (w:World) (z:n<=140737488355328) (v:l.length=n) (Ul:a.length=n) (r:∀i,i<n->w.cell? ⟨b,o+i,none⟩=some (.int .u8 (l.getD i 0))) (s:∀i,i<n->w.cell? ⟨m,p+i,none⟩=some (.int .u8 (a.getD i 0))):
  Calls prog 226 #[.slice (some (aD b o)) n c, .slice (some (aD m p)) n d] w λe w'=>e= .returned (.bool (decide (l=a)))/\bW w w':=by
 go_in;go_wp2;go_loopw [5] (λi wr=>∃k:Nat,k<=n/\i=iV k/\l.take k=a.take k/\bW w wr) (λi _=>n-(intOf i).toNat);case atStart=>exact⟨0,dV _,rfl,by simp,bi _ _⟩
 case round=>
  obtain⟨k,u,rfl,pI,f⟩:=hrel;have Vn:=yh pI;by_cases bq:k<n
  .have q:=cell_later f ((yh r).out k bq);have t:=cell_later f ((yh s).out k bq);have cC:(k:Int)<(n:Int):=(by omega);by_cases g:l.getD k 0=a.getD k 0
   .have j:=yh (DH Vn.o (by omega) (by omega) g);rw [g] at q;generalize a.getD k 0=x at*;go_wp2;go_quiet (fail);go_wp2;go_roundw;case rel=>exact⟨k+1,by omega,by go_num,j.o,below_drewN f _⟩
    case measure=>simp [intOf];omega
   .have dM:=Jw g;have hd:Yh (decide (l=a)=false):=(by show decide (l=a)=false;simp [dM]);have L5:((l.getD k 0) != (a.getD k 0))=true:=(by rw [gA];exact g);generalize a.getD k 0=x at*;generalize l.getD k 0=y at*;go_wp2;go_quiet (fail);go_wp2;go_ret;exact⟨by rw [hd.out];rfl,below_drewN f _⟩
  .have cC:¬(k:Int)<(n:Int):=(by omega);have hd:Yh (decide (l=a)=true):=by
    have:=Vn.o;rw [nr (by omega),nr (by omega)] at this;show decide (l=a)=true;simp [this]
   go_wp2;go_ret;exact⟨by rw [hd.out];rfl,f⟩
def JC (a b:Option Addr) (c d:Nat) (w:World):
  Calls prog 226 #[.slice a 0 c, .slice b 0 d] w λe w'=>e= .returned (.bool true)/\w'=w:=by
 go_in;go_wp2;refine wp_loop_rounds 1 ?_;rw [rounds_succ];go_wp2;go_ret;exact⟨rfl,rfl⟩
def Ne (a b:Option Addr) (n m c d:Nat) (l i:List Int) (w:World) (q:n<=140737488355328) (f:Src w a n l) (g:Src w b m i):
  Calls prog 226 #[.slice a n c, .slice b m d] w λe w'=>e= .returned (.bool (decide (l=i)))/\bW w w':=by
 by_cases xv:n=m
 .subst xv;by_cases h0:n=0
  .subst h0;have o:=List.eq_nil_of_length_eq_zero f.1;have p:=List.eq_nil_of_length_eq_zero g.1;subst o p;exact(JC a b c d w).mono (by rintro e w' ⟨rfl,rfl⟩;exact⟨rfl,bi _ _⟩)
  .cases a with
   |none=>exact absurd (f.2.1 rfl) h0
   |some x=>
    cases b with
    |none=>exact absurd (g.2.1 rfl) h0
    |some y=>
     obtain⟨j,t,rfl,r⟩:=f.spot (by omega);obtain⟨k,u,rfl,s⟩:=g.spot (by omega);exact Nd j t k u n c d l i w q f.1 g.1 r s
 .have hd:decide (l=i)=false:=by
   have:l≠i:=λe=>xv (by rw [<-f.1,<-g.1,e]);simp [this]
  rw [hd];exact(QJ a b n m c d w xv).mono (by rintro e w' ⟨rfl,rfl⟩;exact⟨rfl,bi _ _⟩)
def yT (h:s.length≠512):aX s=([],2):=by unfold aX;rw [aG h]
def kH (h:s.length=512) (a:fA s=none):aX s=([],30):=by unfold aX;rw [aB (by omega),a]
def pN {b:List Int} (h:s.length=512) (a:fA s=some b):aX s=(b,0):=by unfold aX;rw [aB (by omega),a]
def Cu (a:dN s<=504) (b:s.getD 0 0<=2) (c:bh (s.getD 0 0) (dJ s)=s):fA s=some (dJ s):=by unfold fA;rw [aG ⟨a,b,c⟩]
def tH (h:¬(dN s<=504/\s.getD 0 0<=2/\bh (s.getD 0 0) (dJ s)=s)):fA s=none:=by unfold fA;rw [aB h]
def DO (h:Bytes s):((dN s:Nat):Int)=s.getD 1 0+256*s.getD 2 0:=by
 have a:=h.getD 1;have b:=h.getD 2;unfold dN;omega
def Nf (a:Option Addr) (n c:Nat) (w:World) (d:n≠512):
  Calls prog 196 #[.slice a n c] w λe w'=>e= .returned (.tuple #[.slice none 0 0,iV 2])/\bW w w':=by
 have b:(((n:Int)) != 512)=true:=by rw [gA];omega
 go_in;go_wp2;go_ret2;exact⟨rfl,(yh (bi w.heap.size w)).out⟩
def Cv (b o c:Nat) (s:List Int) (w:World) (A:Src w (some (aD b o)) 512 s) (m:Bytes s):
  Calls prog 196 #[.slice (some (aD b o)) 512 c] w λe w'=>∃v,e= .returned (.tuple #[v,iV (((aX s).2:Nat):Int)])/\Own w' w.heap.size v (aX s).1/\bW w w':=by
 have xw:=A.1;have a:=λi hi=>by have:=A.2.2 _ rfl i hi;rwa [aN] at this
 have l:=a 0 (by omega);rw [Nat.add_zero] at l;have L:=a 1 (by omega);have M:=a 2 (by omega);have Dr:bW w w:=bi _ w;have J:=DO m;have u:=m.getD 0;have y:=m.getD 1;have z:=m.getD 2;obtain⟨p,rC⟩:=bQ (s.getD 0 0);obtain⟨q,jI⟩:=bQ (s.getD 1 0);obtain⟨r,mg⟩:=bQ (s.getD 2 0);obtain⟨N,I⟩:=bQ (dN s);rw [<-jI,<-mg,<-I] at J;rw [<-rC] at l u;rw [<-jI] at L y;rw [<-mg] at M z;obtain⟨W,X,Y8,Y,Z,h21,K,C,f,D,S⟩:=LP u.1 u.2 y.1 y.2 z.1 z.2 (yh a) (yh (λj=>below_drewN Dr j)) (yh rC) (yh I) (yh A);clear a rC jI mg I A Dr u y z;by_cases DP:504<N\/2<p
 .have i9:=kH xw (tH (λh=>by rw [<-D.o,<-f.o] at h;omega));have nX:=yh i9;clear i9;by_cases ar:504<N
  .have acO:504<q+256*r:=(by omega);go_in;go_wp2;go_quiet (fail);go_wp2;go_ret2;exact⟨_,by rw [nX.o];rfl,by rw [nX.o];exact Own.nil _ _,C.o _⟩
  .have acO:¬504<q+256*r:=(by omega);have bd:2<p:=(by omega);go_in;go_wp2;go_quiet (fail);go_wp2;go_ret2;exact⟨_,by rw [nX.o];rfl,by rw [nX.o];exact Own.nil _ _,C.o _⟩
 .have acO:¬504<q+256*r:=by omega
  have bd:¬2<p:=by omega
  go_in;go_wp2;go_quiet (fail);go_wp2;go_loopw [5,6] (λv i wr=>∃k:Nat,k<=N/\i=iV k/\Own wr w.heap.size v ((s.drop 7).take k)/\bW w wr) (λ_ i _=>N-(intOf i).toNat);case atStart=>exact⟨0,dV _,rfl,Own.nil _ _,C.o _⟩
  case round=>
   clear l L M;obtain⟨k,hk,rfl,aA,ev⟩:=hrel;have bt:=yh aA;have mh:=yh ev;have hz:=ev.size;clear aA ev;have qN:(s.drop 7).length=505:=(by simp;omega);by_cases bq:k<N
   .have cC:(k:Int)<q+256*r:=(by omega);have hc:=cell_later mh.o (K.o (7+k) (by omega));have G:=j7 (s.drop 7) k (by omega);have O:(s.drop 7).getD k 0=s.getD (7+k) 0:=(by simp [List.getD]);rw [O] at G;have Ct:=yh G;have j5:((s.drop 7).take k).length<=505:=(by rw [List.length_take];omega);clear G O;generalize s.getD (7+k) 0=x at*;go_wp2_with (at_builtin;refine co rfl _ _ rfl w.heap.size u5 _ x rfl rfl bt.o ?b1 ?b2 ?_);case b1=>omega
    case b2=>exact hz
    intro v' w' Q eH;have R:Yh (Own w' w.heap.size v' ((s.drop 7).take (k+1))):=(by rw [<-Ct.o];exact Q);have xr:=yh (mh.o.trans (eH.mono (bS _)));clear Q eH bt mh Ct;go_wp2;go_roundw;case rel=>exact⟨k+1,by omega,by go_num,R.o,xr.o⟩
    case measure=>simp [intOf];omega
   .obtain rfl:k=N:=(by omega);have cC:¬(k:Int)<q+256*r:=(by omega);have H:(s.drop 7).take k=dJ s:=(by unfold dJ;rw [<-D.o]);rw [H] at bt;have lx:(dJ s).length=k:=(by rw [<-H,List.length_take];omega);have gW:Bytes (dJ s):=(m.drop _).take _;have E:=yh lx;obtain⟨T,F,rfl,si,_,_⟩:=bt.o.src;rw [lx] at si bt⊢;clear lx;have l:=cell_later mh.o (K.o 0 (by omega));rw [Nat.add_zero,<-f.o] at l;obtain⟨t,rfl⟩:∃t:Nat,p=(t:Int):=⟨p.toNat,by omega⟩;have P:=Cs t T k F (dJ s) wr (by omega) si (by omega) gW;clear H si;go_wp2_with fail;refine P.mono ?_;rintro e w2 ⟨v2,rfl,jv,bd⟩;have jW:(bh t (dJ s)).length=512:=fv (by rw [E.o];omega);obtain⟨p2,U,rfl,bo,_,_⟩:=jv.src;rw [jW] at*;have eR:=mh.o.trans (bd.mono mh.o.size);have lz:=Ne p2 (some (aD b o)) 512 512 U c (bh t (dJ s)) s w2 (by omega) bo (S.o.later eR);have dP:=yh eR;have i6:=yh (Own.later bt.o bd);clear P jv bd bo eR bt mh;by_cases d:bh t (dJ s)=s
    .rw [decide_eq_true d] at lz;have n:=pN xw (Cu (by rw [<-D.o];omega) (by rw [<-f.o];omega) (by rw [<-f.o];exact d));have g:=yh n;clear d n;go_wp2_with fail;refine bM lz λw3 bF=>?_;obtain⟨gd,acP⟩:=bU (dP.o.trans (bF.mono dP.o.size)) (Own.later i6.o bF);clear lz bF;go_wp2;go_ret2;exact⟨_,by rw [g.o];rfl,by rw [g.o];exact acP.o,gd.o⟩
    .rw [decide_eq_false d] at lz;have n:=kH xw (tH (λh=>d (by have:=h.2.2;rwa [<-f.o] at this)));have g:=yh n;clear d n;go_wp2_with fail;refine bM lz λw3 bF=>?_;have gd:=yh (dP.o.trans (bF.mono dP.o.size));clear lz bF;go_wp2;go_ret2;exact⟨_,by rw [g.o];rfl,by rw [g.o];exact Own.nil _ _,gd.o⟩
def qP (a:Option Addr) (n c:Nat) (s:List Int) (w:World) (f:Src w a n s) (g:Bytes s):
  Calls prog 196 #[.slice a n c] w λe w'=>∃v,e= .returned (.tuple #[v,iV (((aX s).2:Nat):Int)])/\Own w' w.heap.size v (aX s).1/\bW w w':=by
 by_cases d:n=512
 .subst d;obtain⟨b,o,rfl⟩:=cX f (by omega);exact Cv b o c s w f g
 .refine(Nf a n c w d).mono ?_;rintro e w' ⟨rfl,iP⟩;rw [yT (by rw [f.1];exact d)];exact⟨_,rfl,Own.nil _ _,iP⟩
def le2 {a b:Int} (c:0<=a) (d:0<=b):((le [a,b]:Nat):Int)=a+256*b:=by
 simp only [le];omega
def XI (h:s.length=512):(s.drop 1).take 2= [s.getD 1 0,s.getD 2 0]:=by
 match s,h with
 |a :: b :: c :: r,_=>rfl
def kI {b o:Nat} (h:Src w (some (aD b o)) n l) {m:Nat} (d:i+m<=n):Src w (some ⟨b,o+i,none⟩) m ((l.drop i).take m):=
   ⟨by have:=h.1;simp;omega,(λe=>by cases e),λx c j a=>by
  cases c;have:=h.2.2 _ rfl (i+j) (by omega);rw [aN] at this⊢;rw [Nat.add_assoc,this];simp [List.getD,a]⟩
def xT (g o:Nat) (s:List Int) (w:World) (c:Src w (some (aD g o)) 512 s) (a:Bytes s) (DP:504<dN s\/2<s.getD 0 0):
  Calls prog 236 #[.pointer (some (aD g o))] w λe w'=>e= .returned (.tuple #[.slice none 0 0, .bool false])/\w'=w:=by
 have j:=kI c (i:=1) (m:=2) (by omega);have f:=ve g (o+1) 2 2 ((s.drop 1).take 2) w ((a.drop _).take _) j.1 (by omega) (λi p=>by have:=j.2.2 _ rfl i p;rwa [aN] at this);rw [XI c.1,le2 (a.getD 1).1 (a.getD 2).1,<-(DO a)] at f;have k:=c.2.2 _ rfl 0 (by omega);rw [aN,Nat.add_zero] at k;have d:=a.getD 0;have l:=d.1;have n:=d.2;generalize s.getD 0 0=x at*;generalize dN s=N at*;clear c j d;go_in;go_wp2_with fail;refine(mr g o 1 3 w (by omega) (by omega)).mono ?_;rintro e w' ⟨rfl,b⟩;have eM:=b.symm;subst eM;clear b;go_wp2_with fail;refine bM f λw' b=>?_;have eM:=b.symm;subst eM;clear b f;by_cases r:2<x
 .have Um:3<=x:=by omega
  go_wp2;go_ret2;exact⟨rfl,rfl⟩
 .have Um:¬3<=x:=by omega
  have q:504<(N:Int):=by omega
  go_wp2;go_ret2;exact⟨rfl,rfl⟩
def yU {P:Program} {a:Act} {e:Oper} {K:Act->Prop} (c:TypeId) (x:Operand) (j:e.op= .load c x)
    (b o:Nat) (m:a.eval x= .pointer (some (aD b o))) (cs:List Value) (d:TypeDesc) (f:∀w,C w->w.rangeAt b o cs)
    (k:P.underlying c=some d) (hd:d.isRow=true) (g:(P.info? c).map (·.size)=some cs.length) (i:K (a.put e.dst (.agg cs.toArray))):e.quiet P a C K:=
   ⟨_,λw l=>by
  unfold Oper.quietAt execOp;simp only [j,m,Instr.loadAt,Instr.sureAddr,Sem.run_bind,Sem.run_pure,Result.andThen_ok,run_loadVar_mid w b o c cs d (f w l) k hd g];exact⟨rfl,rfl⟩,i⟩
def DQ {a:Act} {b:Oper} {K:Act->Prop} (x y:Operand) (T:TypeId) (f:b.op= .binOp .eql 210 x y T)
    (l m:List Int) (g:a.eval x= .agg (bs l).toArray) (i:a.eval y= .agg (bs m).toArray) (d:l.length=512) (e:m.length=512) (c:K (a.put b.dst (.bool (decide (l=m))))):b.quiet prog a C K:=
   ⟨_,λw _=>by
  unfold Oper.quietAt execOp;simp only [f,g,i];have:=Qr l m d e w x y;rw [Sem.run_bind,this];exact⟨rfl,rfl⟩,c⟩
def FV (g o:Nat) (s:List Int) (w:World) (a:Src w (some (aD g o)) 512 s) (c:Bytes s) (j:dN s<=504) (D:s.getD 0 0<=2):
  Calls prog 236 #[.pointer (some (aD g o))] w λe w'=>∃k,e= .returned (.tuple #[.slice (some (aD g k)) (dN s) (dN s), .bool (decide (bh (s.getD 0 0) (dJ s)=s))])/\(0<dN s->k=o+7)/\bW w w':=by
 have y:=kI a (i:=1) (m:=2) (by omega);have v:=ve g (o+1) 2 2 ((s.drop 1).take 2) w ((c.drop _).take _) y.1 (by omega) (λi A=>by have:=y.2.2 _ rfl i A;rwa [aN] at this);rw [XI a.1,le2 (c.getD 1).1 (c.getD 2).1,<-(DO c)] at v;have u:=a.2.2 _ rfl 0 (by omega);rw [aN,Nat.add_zero] at u;have I:=c.getD 0;have QK:∃k,Src w (some (aD g k)) (dN s) (dJ s)/\(0<dN s->k=o+7)/\Calls prog 218 #[.pointer (some (aD g o)),iV 7,iV (7+(dN s:Int))] w λe w'=>e= .returned (.slice (some (aD g k)) (dN s) (dN s))/\w'=w:=by
  by_cases h0:dN s=0
  .have IW:=Qs g o 7 w (by omega);refine⟨o,⟨by rw [lN j a.1],(λe=>by cases e),λx D i A=>by omega⟩,λh=>by omega,?_⟩;rw [h0];exact IW
  .have d:=mr g o 7 (7+dN s) w (by omega) (by omega);refine⟨o+7,kI a (i:=7) (m:=dN s) (by omega),λ_=>rfl,?_⟩;have G:7+dN s-7=dN s:=(by omega);rw [G] at d;have H:((7+dN s:Nat):Int)=7+(dN s:Int):=(by omega);rw [H] at d;exact d
 obtain⟨k,C,IX,d⟩:=QK;obtain⟨t,J⟩:∃t:Nat,s.getD 0 0=(t:Int):=⟨(s.getD 0 0).toNat,by omega⟩;have gW:Bytes (dJ s):=(c.drop _).take _;rw [J] at u D⊢;have E:(∀q:pJ w,Calls prog 180 #[.int .u8 (t:Int), .slice (some (aD g k)) (dN s) (dN s)] q.to λe w'=>e= .returned (.agg (bs (bh t (dJ s))).toArray)/\Below q.to.heap.size q.to w'):=
  λq=>ou t (some (aD g k)) (dN s) (dN s) (dJ s) q.to (by omega) (C.later q.h) j gW
 have jW:(bh t (dJ s)).length=512:=fv (by rw [(lN j a.1)];exact j);have A8:∀w',(∃q:pJ w,w'=q.to)->w'.rangeAt g o (bs s):=λw' ⟨q,e⟩=>by rw [e];exact nD (a.later q.h)
 have F:∀q:pJ w,q.to.cell? (aD g o)=some (.int .u8 (t:Int)):=λq=>cell_later q.h u;obtain⟨n,p,f,r,acQ⟩:=eK IX A8 jW a.1 (i8 (l:=s) a.1);clear a y I C IX gW jW A8;obtain⟨R,z⟩:=bQ (bh t (dJ s));rw [<-z] at E f⊢;clear z;generalize dN s=N at*;have tI:¬3<=(t:Int):=by omega
 go_in;go_wp2_with fail;refine(mr g o 1 3 w (by omega) (by omega)).mono ?_;rintro e w' ⟨rfl,b⟩;have eM:=b.symm;subst eM;clear b;go_wp2_with fail;refine bM v λw' b=>?_;have eM:=b.symm;subst eM;clear b v;go_wp2_with fail;refine bM d λw' b=>?_;have eM:=b.symm;subst eM;clear b d;go_wp2_with fail;have dM:=pJ.some w;refine xo (by kernel_rfl) (by kernel_rfl) ?_
 repeat (first|go_big_quiet_skip|(go_big_quiet_want;go_big_quiet_op;first|go_big_quiet_on|(apply Exists.intro;refine⟨λq=>?_,?_⟩;exact Calls.Ql (E q);go_big_quiet_on)))
 go_big_quiet_want
 refine yU 210 _ rfl g o rfl (bs s) _ p underlying210 rfl acQ ?_;simp only [Act.put,List.setIfInBounds_toArray,List.set_cons_succ,List.set_cons_zero]
 go_big_quiet_on
 go_big_quiet_want
 refine DQ _ _ _ rfl R s rfl rfl f r ?_;simp only [Act.put,List.setIfInBounds_toArray,List.set_cons_succ,List.set_cons_zero]
 go_big_quiet_on
 repeat (go_big_quiet_want;go_big_quiet_op;go_big_quiet_on)
 refine wpQuiet_nil ?_;rintro _ ⟨q,rfl⟩;go_wp2;go_ret2;exact⟨k,rfl,n,q.h⟩
def Ng (a:Option Addr) (n c:Nat) (w:World) (b:n≠512):
  Calls prog 222 #[.slice a n c] w λe w'=>e= .returned (.tuple #[.slice none 0 0,iV 2])/\bW w w':=by
 obtain⟨g,d,aW,dL⟩:=cO ji (pM a n c w b) yS yR;generalize bm=Z at*;have bV:Z.all Value.oneCell'=true:=all_oneCell_toArray dL;go_in;go_wp2_with fail;refine bM d λw1 ar=>?_;have bO:(w1.alloc (.cells Z 210)).heap[w1.heap.size]? =some (.cells Z 210 (0,0)):=heap_alloc_new _ _;have ef:(w1.alloc (.cells Z 210)).there w1.heap.size 0 Z.toList.length:=cH bO (by simp);have bN:bW w (w1.alloc (.cells Z 210)):=ar.alloc ar.size _;have eE:=ar.size;have A9:=(bN.trans ((aa.setCells (F:=λj=>j=w1.heap.size) rfl Z.toList 0 _).below (λj f=>by omega) bN.size));go_wp2_with (refine wpList_store_mid rfl 210 _ _ rfl w1.heap.size 0 Z rfl rfl ?h1 ?h2 bV ?_);case h1=>simpa using ef
 case h2=>simpa using aW
 go_ret2;exact⟨rfl,A9⟩
def Nh (b o c:Nat) (s:List Int) (w:World) (f:Src w (some (aD b o)) 512 s) (Vo:Bytes s):
  Calls prog 222 #[.slice (some (aD b o)) 512 c] w λe w'=>∃v,e= .returned (.tuple #[v,iV (((aX s).2:Nat):Int)])/\xS w' w.heap.size v (aX s).1/\bW w w':=by
 obtain⟨D,eh,aW,dL⟩:=cO ji (mt b o c s w f) (i8 (l:=s) f.1) (cF s);have j5:(bs s).length=512:=by rw [bs,List.length_map,f.1]
 have mR:=f.1;have bV:=all_oneCell_toArray dL;obtain⟨F,p⟩:=bQ (bs s);rw [<-p] at eh aW dL j5 bV;have z:=yh p;clear dL f p;go_in;go_wp2_with fail;refine bM eh λw1 ar=>?_;have bO:(w1.alloc (.cells bm 210)).heap[w1.heap.size]? =some (.cells bm 210 (0,0)):=heap_alloc_new _ _;have ef:=cH bO cP;rw [<-j5] at ef;have bN:bW w (w1.alloc (.cells bm 210)):=ar.alloc ar.size _;have eE:=ar.size;have eR:=bN.trans ((aa.setCells (F:=λj=>j=w1.heap.size) rfl F 0 _).below (λj C=>by omega) bN.size);have aV:=eJ (l:=s) bO (by rw [cP,mR]);rw [<-z.o] at aV;obtain⟨q,dE⟩:=bQ ((w1.alloc (.cells bm 210)).setCells w1.heap.size 0 F);rw [<-dE] at aV eR;have fS:Src q (some (aD w1.heap.size 0)) 512 s:=by
  have:=aV.src (o:=0) (n:=512) (by omega);rwa [List.drop_zero,nr (by omega)] at this
 obtain⟨dP,QL⟩:=bU eR fS;clear eh bO bN ar aV eR fS;go_wp2_with (refine wpList_store_mid rfl 210 _ _ rfl w1.heap.size 0 F.toArray rfl rfl ?h1 ?h2 bV ?_);case h1=>simpa using ef
 case h2=>simpa using aW
 rw [<-dE];clear dE ef aW bV;by_cases DP:504<dN s\/2<s.getD 0 0
 .have i9:=kH mR (tH (λh=>by omega));have nX:=yh i9;refine(xT w1.heap.size 0 s q QL.o Vo DP).mono ?_;rintro e w' ⟨rfl,t⟩;have eM:=t.symm;subst eM;clear t i9 DP;go_wp2;go_ret2;exact⟨_,by rw [nX.o];rfl,by rw [nX.o];exact xS.nil _ _,dP.o⟩
 .refine(FV w1.heap.size 0 s q QL.o Vo (by omega) (by omega)).mono ?_;rintro e y ⟨k,rfl,r,bF⟩;have si:Src y (some (aD w1.heap.size k)) (dN s) (dJ s):=by
   by_cases h0:dN s=0
   .exact⟨lN (by omega) mR,(λe=>by cases e),λx u i A=>by omega⟩
   .rw [r (by omega)];exact kI (QL.o.later bF) (i:=7) (m:=dN s) (by omega)
  have gd:=yh (dP.o.trans (bF.mono dP.o.size));have lx:=lN (s:=s) (by omega) mR;have iS:xS y w.heap.size (.slice (some (aD w1.heap.size k)) (dN s) (dN s)) (dJ s):=⟨some (aD w1.heap.size k),dN s,by rw [lx],by rw [lx];exact si,by omega,λx u=>by cases u;exact eE⟩;have ahN:=yh iS;clear si iS r bF lx;by_cases a:bh (s.getD 0 0) (dJ s)=s
  .have g:=pN mR (Cu (by omega) (by omega) a);have d:=yh g;rw [decide_eq_true a];clear a g;go_wp2;go_ret2;exact⟨_,by rw [d.o];rfl,by rw [d.o];exact ahN.o,gd.o⟩
  .have g:=kH mR (tH (λh=>a h.2.2));have d:=yh g;rw [decide_eq_false a];clear a g;go_wp2;go_ret2;exact⟨_,by rw [d.o];rfl,by rw [d.o];exact xS.nil _ _,gd.o⟩
def Cw (a:Option Addr) (n c:Nat) (s:List Int) (w:World) (f:Src w a n s) (g:Bytes s):
  Calls prog 222 #[.slice a n c] w λe w'=>∃v,e= .returned (.tuple #[v,iV (((aX s).2:Nat):Int)])/\xS w' w.heap.size v (aX s).1/\bW w w':=by
 by_cases d:n=512
 .subst d;obtain⟨b,o,rfl⟩:=cX f (by omega);exact Nh b o c s w f g
 .refine(Ng a n c w d).mono ?_;rintro e w' ⟨rfl,iP⟩;rw [yT (by rw [f.1];exact d)];exact⟨_,rfl,xS.nil _ _,iP⟩
def yV {old:List Int} (a:old.length=512) (b:body.length<=504):gv old body=(bh (cG (old.getD 0 0) (old.getD 511 0)) body,0):=by
 unfold gv;rw [aB (by omega),aB (by omega)]
def Own.full {B:Nat} (h:Own w B v l) (h0:0<l.length):∃g c,v= .slice (some (aD g 0)) l.length c/\B<=g/\ay w 5 g c (bs l):=h.Vl h0
def bR (l:List Int):List Int:=if l.length=512 then l else zs 512
def aT (l:List Int):(bR l).length=512:=by unfold bR;split;assumption;exact bH 512
def gM (h:l.length=512):bR l=l:=by unfold bR;rw [aG h]
def tJ (a:Option Addr) (n c:Nat) (l:List Int) (w:World) (d:Src w a n l):
  Calls prog 215 #[.slice a n c] w λe w'=>e= .returned (.tuple #[.agg (bs (bR l)).toArray, .bool (decide (n=512))])/\bW w w':=by
 by_cases f:n=512
 .subst f;cases a with
  |none=>have:=d.2.1 rfl;omega
  |some x=>
   obtain⟨b,o,rfl,_⟩:=d.spot (by omega);rw [gM d.1];exact mt b o c l w d
 .have e:bR l=zs 512:=by unfold bR;rw [aB (by rw [d.1];exact f)]
  rw [e,decide_eq_false f];exact pM a n c w f
def cT:Array Value:=(bs (zs 1024)).toArray
def FW:(prog.info? 212).map (λi=>(i.zero,i.size))=some (some (.agg cT),1024):=by kernel_rfl
def kJ (w:World):(zeroValue 212).run prog w= .ok (.agg cT) w:=by
 obtain⟨i,b,a⟩:=Option.map_eq_some_iff.1 FW;simp only [Prod.mk.injEq] at a;simp [zeroValue,typeInfo,b,a.1]
def pO:(prog.info? 212).map (·.size)=some 1024:=by
 obtain⟨i,b,a⟩:=Option.map_eq_some_iff.1 FW;simp only [Prod.mk.injEq] at a;rw [b,<-a.2];rfl
def dg:cT.size=1024:=by unfold cT;simp only [List.size_toArray,bs,List.length_map,bH]
def Dm:∀(c:List Value) (k b:Nat) (a:Array Value),b+k+c.length<=a.size->
    ((c.zipIdx k).foldl (λcs (x:Value×Nat)=>cs.setIfInBounds (b+x.2) x.1) a).toList=a.toList.take (b+k) ++ c ++ a.toList.drop (b+k+c.length)
 | [],k,b,a,h=>by simp
 |v :: r,k,b,a,h=>by
  have d:b+k<a.toList.length:=by simp at h⊢;omega
  rw [List.zipIdx_cons,List.foldl_cons,Dm r (k+1) b _ (by simp at h⊢;omega)];simp only [Array.toList_setIfInBounds];rw [show b+(k+1)=b+k+1 by omega,List.take_set,List.drop_set];rw [aG (by omega),List.take_succ_eq_append_getElem d,List.set_append_right _ _ (by simp;omega)];have:(b+k)-(a.toList.take (b+k)).length=0:=by simp;omega
  rw [this,List.set_cons_zero];simp only [List.length_cons,List.append_assoc,List.cons_append,List.nil_append];congr 4;omega
def AV (F a:Array Value) (b:Nat) (h:b+F.size<=a.size):
    (F.zipIdx.foldl (λcs (x:Value×Nat)=>cs.setIfInBounds (b+x.2) x.1) a).toList=a.toList.take b ++ F.toList ++ a.toList.drop (b+F.size):=by
 rw [<-Array.foldl_toList,Array.toList_zipIdx];have:=Dm F.toList 0 b a (by simpa using h);simpa using this
def JD (F G:Array Value) (a:F.size=512) (d:G.size=512) (w:World):
    (Instr.build 212 #[(0, .agg F),(1, .agg G)]).run prog w= .ok (.agg (F ++ G)) w:=by
 obtain⟨i,l,k⟩:=Option.map_eq_some_iff.1 DM;have m:=dg;have c:=AV F cT (0*512) (by omega);have s1:(F.zipIdx.foldl (λcs (x:Value×Nat)=>cs.setIfInBounds (0*512+x.2) x.1) cT).size=1024:=by
  rw [<-Array.length_toList,c];simp;omega
 have j:=AV G (F.zipIdx.foldl (λcs (x:Value×Nat)=>cs.setIfInBounds (0*512+x.2) x.1) cT) (1*512) (by omega);have b:Instr.fill (λi=>some (i*512,512)) cT [(0, .agg F),(1, .agg G)]=some (F ++ G):=by
  have e:(Value.agg F).cells=F:=rfl;have f:(Value.agg G).cells=G:=rfl;simp only [Instr.fill,e,f,a,d,m];rw [aB (by simp),aB (by simp only [ne_eq,not_true,decide_false,Bool.false_or,decide_eq_true_eq];omega)];refine congrArg some ?_;apply Array.ext';rw [j,c];have rL:F.toList.length=512:=by simpa using a
  simp only [Nat.zero_mul,List.take_zero,List.nil_append,Nat.zero_add,Nat.one_mul,a,d];rw [List.take_left' rL,List.drop_eq_nil_of_le (by simp;omega)];simp
 have g:(Value.agg cT).cells=cT:=rfl;simp only [Instr.build,Sem.run_bind,kJ,Result.andThen_ok,run_underlying underlying212,g];have eE:(sizeOf 210).run prog w= .ok 512 w:=by simp [sizeOf,typeInfo,l,k]
 rw [eE,Result.andThen_ok,b];rfl
def ow {F:List Value} (h:F.length=512):(prog.info? 210).map (·.size)=some F.length:=by rw [DM,h]
def mu {b:Array Oper} {rest:List Oper} {c:Oper} {a:Act} {Q:Exit->Act->World->Prop} (FU:c.guard=none) (x y:Operand) (k:c.op= .build 212 #[(0,x),(1,y)])
    (F G P:Array Value) (l:a.eval x= .agg F) (m:a.eval y= .agg G) (d:F.size=512) (f:G.size=512) (j:P=F ++ G)
    (h:wpList prog b Q rest (a.put c.dst (.agg P)) w):wpList prog b Q (c :: rest) a w:=
 wpList_plain FU λK g=>by
  subst j;unfold Oper.wp execOp;simp only [k];have e:(#[(0,x),(1,y)]:Array (Nat×Operand)).map (λ(i,o)=>(i,a.eval o))= #[(0, .agg F),(1, .agg G)]:=by simp [l,m]
  rw [e,Sem.run_bind,(JD F G d f w)];exact g _ _ h
def JE (C E:Bool) (F G:List Value) (q:F.length=512) (r:G.length=512) (g:∀v∈F,v.oneCell'=true) (i:∀v∈G,v.oneCell'=true) (x y:Value) (w:World)
    (A4:∀w':World,bW w w'->Calls prog 215 #[x] w' λe Bi=>e= .returned (.tuple #[.agg F.toArray, .bool C])/\bW w' Bi)
    (Bq:∀w':World,bW w w'->Calls prog 215 #[y] w' λe Bi=>e= .returned (.tuple #[.agg G.toArray, .bool E])/\bW w' Bi):
  Calls prog 177 #[x,y] w λe w'=>e= .returned (.tuple #[.agg (F.toArray ++ G.toArray), .bool (C && E)])/\bW w w':=by
 cases C
 .have H:=ji;have l:F.toArray.size=512:=by simpa using q
  have m:G.toArray.size=512:=by simpa using r
  have sk:=ow q;have sm:=ow r;have yW:(prog.info? 212).map (·.size)=some (F.toArray ++ G.toArray).size:=by rw [pO];simp;omega
  have QM:=all_oneCell_toArray g;have QN:=all_oneCell_toArray i;have FX:(F.toArray ++ G.toArray).all (·.oneCell')=true:=by
   have:=all_oneCell_toArray (cs:=F ++ G) (λv n=>(List.mem_append.1 n).elim (g v) (i v));simpa using this
  have bN:bW w (w.alloc (.cells cT 212)):=(bi _ w).alloc (bS _) _;have u:=A4 _ bN;have cQ:=yh bN;have FY:(w.alloc (.cells cT 212)).heap[w.heap.size]? =some (.cells cT 212 (0,0)):=heap_alloc_new _ _;obtain⟨FZ,c⟩:=bU FY Bq;have bO:w.heap.size<(w.alloc (.cells cT 212)).heap.size:=by simp
  clear bN A4 Bq FY;go_in;go_wp2_with fail;refine bM u λw1 ar=>?_;have eR:=cQ.o.trans (ar.mono cQ.o.size);have kL:=(ar.block w.heap.size bO).trans FZ.o;have dC:=eR.size;have sf:=i5 bO ar.size;have jk:(w1.alloc (.cells bm 210)).heap[w1.heap.size]? =some (.cells bm 210 (0,0)):=heap_alloc_new _ _;have ef:=cH jk cP;rw [<-q] at ef;have jT:bW w (w1.alloc (.cells bm 210)):=eR.alloc dC _;have rB:=jT.trans ((aa.setCells (F:=λj=>j=w1.heap.size) rfl F 0 _).below (λj t=>by omega) jT.size);have Zn:=World.rangeAt_setCells_same (w1.alloc (.cells bm 210)) w1.heap.size 0 F ef;have yX:((w1.alloc (.cells bm 210)).setCells w1.heap.size 0 F).heap[w.heap.size]? =some (.cells cT 212 (0,0)):=
     ((aa.setCells (F:=λj=>j=w1.heap.size) rfl F 0 _).block w.heap.size (by simp;omega) (by omega)).trans ((heap_alloc_old w1 _ sf).trans kL)
  have jC:((w1.alloc (.cells bm 210)).setCells w1.heap.size 0 F).heap.size=w1.heap.size+1:=by rw [mQ];simp
  obtain⟨A,dE⟩:=bQ ((w1.alloc (.cells bm 210)).setCells w1.heap.size 0 F);rw [<-dE] at rB Zn yX jC;obtain⟨z,fd,jU,d,F0⟩:=eK (c.o A rB) (yh dE) (yh rB) (yh Zn) (yh yX);clear u ar eR kL jk jT rB Zn yX dE c cQ FZ;go_wp2_with (refine wpList_store_mid rfl 210 _ _ rfl w1.heap.size 0 F.toArray rfl rfl ?h1 ?h2 QM ?_);case h1=>simpa using ef
  case h2=>simpa using sk
  rw [<-fd.o];refine bM z λb bF=>?_;have Jz:=jU.o.trans (bF.mono jU.o.size);have wi:=(bF.block w.heap.size (by omega)).trans F0.o;have ly:=Jz.size;have Fz:=bF.size;have xU:(b.alloc (.cells bm 210)).heap[b.heap.size]? =some (.cells bm 210 (0,0)):=heap_alloc_new _ _;have JF:=cH xU cP;rw [<-r] at JF;have A9:bW w (b.alloc (.cells bm 210)):=Jz.alloc ly _;have Bw:=A9.trans ((aa.setCells (F:=λj=>j=b.heap.size) rfl G 0 _).below (λj t=>by omega) A9.size);have Zo:=World.rangeAt_setCells_same (b.alloc (.cells bm 210)) b.heap.size 0 G JF;have JG:((b.alloc (.cells bm 210)).setCells b.heap.size 0 G).rangeAt w1.heap.size 0 F:=by
   intro j v n;rw [World.cell?_of_block (w:=A) (a:=⟨w1.heap.size,0+j,none⟩)]
   .exact(d.o j v n)
   .exact((aa.setCells (F:=λj=>j=b.heap.size) rfl G 0 _).block w1.heap.size (by simp;omega) (by omega)).trans ((heap_alloc_old b _ (show w1.heap.size<b.heap.size by omega)).trans (bF.block w1.heap.size (by omega)))
  have rJ:((b.alloc (.cells bm 210)).setCells b.heap.size 0 G).heap[w.heap.size]? =some (.cells cT 212 (0,0)):=
     ((aa.setCells (F:=λj=>j=b.heap.size) rfl G 0 _).block w.heap.size (by simp;omega) (by omega)).trans ((heap_alloc_old b _ (show w.heap.size<b.heap.size by omega)).trans wi)
  obtain⟨p,pk⟩:=bQ ((b.alloc (.cells bm 210)).setCells b.heap.size 0 G);rw [<-pk] at Bw Zo JG rJ;have JH:p.there w.heap.size 0 (F.toArray ++ G.toArray).toList.length:=cH rJ (by rw [dg];simp;omega);have f:=yh (World.rangeAt_setCells_same p w.heap.size 0 (F.toArray ++ G.toArray).toList JH);obtain⟨Ni,IY⟩:=bU (Bw.trans ((aa.setCells (F:=λj=>j=w.heap.size) rfl (F.toArray ++ G.toArray).toList 0 p).below (λj t=>by omega) Bw.size)) pk;have tK:(prog.info? 212).map (·.size)=some (F.toArray ++ G.toArray).toList.length:=by rw [pO];simp;omega
  obtain⟨P,k⟩:=bQ (F.toArray ++ G.toArray);rw [<-k] at yW FX JH f Ni tK;have s:=yh k;clear z bF Jz wi xU A9 Bw rJ pk k jU d F0 fd;go_wp2_with (first|refine mu rfl _ _ rfl F.toArray G.toArray P rfl rfl l m s.o ?_|refine wpList_store_mid rfl 210 _ _ rfl b.heap.size 0 G.toArray rfl rfl ?h1 ?h2 QN ?_|(rw [<-IY.o];first|refine wpList_load_mid rfl 210 _ rfl w1.heap.size 0 rfl F _ JG underlying210 rfl sk ?_|refine wpList_load_mid rfl 210 _ rfl b.heap.size 0 rfl G _ Zo underlying210 rfl sm ?_)|refine wpList_load_mid rfl 210 _ rfl w1.heap.size 0 rfl F _ JG underlying210 rfl sk ?_|refine wpList_load_mid rfl 210 _ rfl b.heap.size 0 rfl G _ Zo underlying210 rfl sm ?_|refine wpList_store_mid rfl 212 _ _ rfl w.heap.size 0 P rfl rfl ?h3 ?h4 FX ?_);case h1=>simpa using JF
  case h2=>simpa using sm
  case h3=>simpa using JH
  case h4=>simpa using yW
  have D:P.toList.toArray=(F ++ G).toArray:=by rw [s.o];simp
  exact bodyPost_ret (results_cell_tmp (P:=prog) rfl _ _ w.heap.size P.toList _ _ rfl rfl f.out underlying212 rfl tK) rfl ⟨by rw [D];rfl,Ni.out⟩
 .have H:=ji;have l:F.toArray.size=512:=by simpa using q
  have m:G.toArray.size=512:=by simpa using r
  have sk:=ow q;have sm:=ow r;have yW:(prog.info? 212).map (·.size)=some (F.toArray ++ G.toArray).size:=by rw [pO];simp;omega
  have QM:=all_oneCell_toArray g;have QN:=all_oneCell_toArray i;have FX:(F.toArray ++ G.toArray).all (·.oneCell')=true:=by
   have:=all_oneCell_toArray (cs:=F ++ G) (λv n=>(List.mem_append.1 n).elim (g v) (i v));simpa using this
  have bN:bW w (w.alloc (.cells cT 212)):=(bi _ w).alloc (bS _) _;have u:=A4 _ bN;have cQ:=yh bN;have FY:(w.alloc (.cells cT 212)).heap[w.heap.size]? =some (.cells cT 212 (0,0)):=heap_alloc_new _ _;obtain⟨FZ,c⟩:=bU FY Bq;have bO:w.heap.size<(w.alloc (.cells cT 212)).heap.size:=by simp
  clear bN A4 Bq FY;go_in;go_wp2_with fail;refine bM u λw1 ar=>?_;have eR:=cQ.o.trans (ar.mono cQ.o.size);have kL:=(ar.block w.heap.size bO).trans FZ.o;have dC:=eR.size;have sf:=i5 bO ar.size;have jk:(w1.alloc (.cells bm 210)).heap[w1.heap.size]? =some (.cells bm 210 (0,0)):=heap_alloc_new _ _;have ef:=cH jk cP;rw [<-q] at ef;have jT:bW w (w1.alloc (.cells bm 210)):=eR.alloc dC _;have rB:=jT.trans ((aa.setCells (F:=λj=>j=w1.heap.size) rfl F 0 _).below (λj t=>by omega) jT.size);have Zn:=World.rangeAt_setCells_same (w1.alloc (.cells bm 210)) w1.heap.size 0 F ef;have yX:((w1.alloc (.cells bm 210)).setCells w1.heap.size 0 F).heap[w.heap.size]? =some (.cells cT 212 (0,0)):=
     ((aa.setCells (F:=λj=>j=w1.heap.size) rfl F 0 _).block w.heap.size (by simp;omega) (by omega)).trans ((heap_alloc_old w1 _ sf).trans kL)
  have jC:((w1.alloc (.cells bm 210)).setCells w1.heap.size 0 F).heap.size=w1.heap.size+1:=by rw [mQ];simp
  obtain⟨A,dE⟩:=bQ ((w1.alloc (.cells bm 210)).setCells w1.heap.size 0 F);rw [<-dE] at rB Zn yX jC;obtain⟨z,fd,jU,d,F0⟩:=eK (c.o A rB) (yh dE) (yh rB) (yh Zn) (yh yX);clear u ar eR kL jk jT rB Zn yX dE c cQ FZ;go_wp2_with (refine wpList_store_mid rfl 210 _ _ rfl w1.heap.size 0 F.toArray rfl rfl ?h1 ?h2 QM ?_);case h1=>simpa using ef
  case h2=>simpa using sk
  rw [<-fd.o];refine bM z λb bF=>?_;have Jz:=jU.o.trans (bF.mono jU.o.size);have wi:=(bF.block w.heap.size (by omega)).trans F0.o;have ly:=Jz.size;have Fz:=bF.size;have xU:(b.alloc (.cells bm 210)).heap[b.heap.size]? =some (.cells bm 210 (0,0)):=heap_alloc_new _ _;have JF:=cH xU cP;rw [<-r] at JF;have A9:bW w (b.alloc (.cells bm 210)):=Jz.alloc ly _;have Bw:=A9.trans ((aa.setCells (F:=λj=>j=b.heap.size) rfl G 0 _).below (λj t=>by omega) A9.size);have Zo:=World.rangeAt_setCells_same (b.alloc (.cells bm 210)) b.heap.size 0 G JF;have JG:((b.alloc (.cells bm 210)).setCells b.heap.size 0 G).rangeAt w1.heap.size 0 F:=by
   intro j v n;rw [World.cell?_of_block (w:=A) (a:=⟨w1.heap.size,0+j,none⟩)]
   .exact(d.o j v n)
   .exact((aa.setCells (F:=λj=>j=b.heap.size) rfl G 0 _).block w1.heap.size (by simp;omega) (by omega)).trans ((heap_alloc_old b _ (show w1.heap.size<b.heap.size by omega)).trans (bF.block w1.heap.size (by omega)))
  have rJ:((b.alloc (.cells bm 210)).setCells b.heap.size 0 G).heap[w.heap.size]? =some (.cells cT 212 (0,0)):=
     ((aa.setCells (F:=λj=>j=b.heap.size) rfl G 0 _).block w.heap.size (by simp;omega) (by omega)).trans ((heap_alloc_old b _ (show w.heap.size<b.heap.size by omega)).trans wi)
  obtain⟨p,pk⟩:=bQ ((b.alloc (.cells bm 210)).setCells b.heap.size 0 G);rw [<-pk] at Bw Zo JG rJ;have JH:p.there w.heap.size 0 (F.toArray ++ G.toArray).toList.length:=cH rJ (by rw [dg];simp;omega);have f:=yh (World.rangeAt_setCells_same p w.heap.size 0 (F.toArray ++ G.toArray).toList JH);obtain⟨Ni,IY⟩:=bU (Bw.trans ((aa.setCells (F:=λj=>j=w.heap.size) rfl (F.toArray ++ G.toArray).toList 0 p).below (λj t=>by omega) Bw.size)) pk;have tK:(prog.info? 212).map (·.size)=some (F.toArray ++ G.toArray).toList.length:=by rw [pO];simp;omega
  obtain⟨P,k⟩:=bQ (F.toArray ++ G.toArray);rw [<-k] at yW FX JH f Ni tK;have s:=yh k;clear z bF Jz wi xU A9 Bw rJ pk k jU d F0 fd;go_wp2_with (first|refine mu rfl _ _ rfl F.toArray G.toArray P rfl rfl l m s.o ?_|refine wpList_store_mid rfl 210 _ _ rfl b.heap.size 0 G.toArray rfl rfl ?h1 ?h2 QN ?_|(rw [<-IY.o];first|refine wpList_load_mid rfl 210 _ rfl w1.heap.size 0 rfl F _ JG underlying210 rfl sk ?_|refine wpList_load_mid rfl 210 _ rfl b.heap.size 0 rfl G _ Zo underlying210 rfl sm ?_)|refine wpList_load_mid rfl 210 _ rfl w1.heap.size 0 rfl F _ JG underlying210 rfl sk ?_|refine wpList_load_mid rfl 210 _ rfl b.heap.size 0 rfl G _ Zo underlying210 rfl sm ?_|refine wpList_store_mid rfl 212 _ _ rfl w.heap.size 0 P rfl rfl ?h3 ?h4 FX ?_);case h1=>simpa using JF
  case h2=>simpa using sm
  case h3=>simpa using JH
  case h4=>simpa using yW
  have D:P.toList.toArray=(F ++ G).toArray:=by rw [s.o];simp
  exact bodyPost_ret (results_cell_tmp (P:=prog) rfl _ _ w.heap.size P.toList _ _ rfl rfl f.out underlying212 rfl tK) rfl ⟨by rw [D];rfl,Ni.out⟩
def jr (a:Option Addr) (n c:Nat) (l:List Int) (b:Option Addr) (m d:Nat) (r:List Int) (w:World) (g:Src w a n l) (bo:Src w b m r):
  Calls prog 177 #[.slice a n c, .slice b m d] w λe w'=>e= .returned (.tuple #[.agg (bs (bR l ++ bR r)).toArray, .bool (decide (n=512) && decide (m=512))])/\bW w w':=by
 have h:=JE (decide (n=512)) (decide (m=512)) (bs (bR l)) (bs (bR r)) (by rw [bs,List.length_map,aT]) (by rw [bs,List.length_map,aT]) (cF _) (cF _) (.slice a n c) (.slice b m d) w
    (λw' f=>tJ a n c l w' (g.later f)) (λw' f=>tJ b m d r w' (bo.later f))
 rw [List.append_toArray,<-iQ] at h;exact h
def iA (w:World) (g:Nat) (v:Value) (l:List Int):Prop:=∃a c,v= .slice a l.length c/\Src w a l.length l/\l.length<=c/\∀x,a=some x->x.block=g
def iA.nil (w:World) (g:Nat):iA w g (.slice none 0 0) []:=⟨none,0,rfl,⟨rfl,λ_=>rfl,λx a=>by cases a⟩,bS _,λx a=>by cases a⟩
def iA.later (h:iA w g v l) (b:bW w w'):iA w' g v l:=by
 obtain⟨a,c,rfl,e,d,f⟩:=h;exact⟨a,c,rfl,e.later b,d,f⟩
def iA.lst {B:Nat} (h:iA w g v l) (d:B<=g):xS w B v l:=by
 obtain⟨a,c,rfl,f,b,i⟩:=h;exact⟨a,c,rfl,f,b,λx e=>by rw [i x e];exact d⟩
def fk (h:fA s=none\/∃b,fA s=some b/\(b.length<8\/9223372036854775808<=le (b.take 8))):az s=(0, []):=by
 rcases h with h|⟨b,h,a⟩
 .simp [az,h]
 .simp only [az,h];rw [aB (by omega)]
def tL {b:List Int} (h:fA s=some b) (a:8<=b.length) (c:le (b.take 8)<9223372036854775808):az s=(le (b.take 8),b.drop 8):=by
 simp only [az,h];rw [aG ⟨a,c⟩]
def yY (g o:Nat) (s:List Int) (w:World) (c:Src w (some (aD g o)) 512 s) (p:Bytes s):
  Calls prog 216 #[.pointer (some (aD g o))] w λe w'=>∃v,e= .returned (.tuple #[iV (((az s).1:Nat):Int),v])/\iA w' g v (az s).2/\bW w w':=by
 have mR:=c.1;go_in;go_wp2_with fail;by_cases DP:504<dN s\/2<s.getD 0 0
 .have i9:az s=(0, []):=fk (.inl (by unfold fA;rw [aB (λh=>by omega)]));have nX:=yh i9;have b:=xT g o s w c p DP;clear i9 c;refine bM b λw' d=>?_;have eM:=d.symm;subst eM;clear d b;go_wp2;go_ret2;exact⟨_,by rw [nX.o];rfl,by rw [nX.o];exact iA.nil _ _,bi _ _⟩
 .have b:=FV g o s w c p (by omega) (by omega);have lx:=lN (s:=s) (by omega) mR;have gW:Bytes (dJ s):=(p.drop _).take _;by_cases a:bh (s.getD 0 0) (dJ s)=s
  .have me:fA s=some (dJ s):=(by unfold fA;rw [aG ⟨by omega,by omega,a⟩]);rw [decide_eq_true a] at b;refine b.mono ?_;by_cases A:dN s<8
   .have i9:=fk (.inr ⟨_,me, .inl (by omega)⟩);have nX:=yh i9;have l:(dN s:Int)<8:=(by omega);clear i9 c me a gW;generalize dN s=N at*;rintro e w1 ⟨k,rfl,_,ar⟩;have cQ:=yh ar;clear ar b;go_wp2;go_ret2;exact⟨_,by rw [nX.o];rfl,by rw [nX.o];exact iA.nil _ _,cQ.o⟩
   .have l:¬(dN s:Int)<8:=(by omega);have si:∀w1:World,bW w w1->Src w1 (some ⟨g,o+7,none⟩) (dN s) (dJ s):=λw1 h=>kI (c.later h) (i:=7) (m:=dN s) (by omega);have Nj:((dJ s).take 8).length=8:=(by rw [List.length_take];omega);have Zp:=FR (gW.take 8) (by omega);have pI:=λw1 h=>by
     have r:=kI (si w1 h) (i:=0) (m:=8) (by omega);rw [List.drop_zero] at r;exact ve g (o+7) 8 8 ((dJ s).take 8) w1 (gW.take 8) Nj (by omega) (λi q=>by have:=r.2.2 _ rfl i q;rwa [aN,Nat.add_zero] at this)
    have Vn:=yh pI;clear pI;obtain⟨M,f⟩:=bQ (le ((dJ s).take 8));rw [<-f] at Zp Vn;rintro e w1 ⟨k,rfl,j,ar⟩;have Bj:=j (by omega);subst Bj;have cQ:=yh ar;have t:=Vn.o w1 ar;clear ar b Vn j;go_wp2_with fail;refine bM t λw' d=>?_;have eM:=d.symm;subst eM;clear d t;by_cases aU:9223372036854775807<M
    .have i9:=fk (.inr ⟨_,me, .inr (by omega)⟩);have nX:=yh i9;have acU:9223372036854775807<(M:Int):=(by omega);clear i9 c me a gW f;generalize dN s=N at*;have y:(8:Int)<=(N:Int):=(by omega);go_wp2;go_ret2;exact⟨_,by rw [nX.o];rfl,by rw [nX.o];exact iA.nil _ _,cQ.o⟩
    .have kM:az s=(M,(dJ s).drop 8):=(by rw [f];exact tL me (by omega) (by omega));have JI:=yh kM;have acU:¬9223372036854775807<(M:Int):=(by omega);have qN:((dJ s).drop 8).length=dN s-8:=(by simp;omega);have jH:∀(w1:World) (k:Nat),bW w w1->(8<dN s->k=o+7+8)->iA w1 g (.slice (some (aD g k)) (dN s-8) (dN s-8)) ((dJ s).drop 8):=by
      intro w1 k h j;refine⟨some (aD g k),dN s-8,by rw [qN],?_,by omega,λx u=>by cases u;rfl⟩;rw [qN];by_cases n:8<dN s
      .rw [j n];have:=kI (si w1 h) (i:=8) (m:=dN s-8) (by omega);rwa [nr (by omega)] at this
      .exact⟨by omega,(λe=>by cases e),λx u i q=>by omega⟩
     have kW:=yh jH;clear kM c me a gW f jH si qN Nj lx;generalize dN s=N at*;have y:(8:Int)<=(N:Int):=(by omega);go_wp2;go_quiet (fail);by_cases n:N=8
     .subst n;go_wp2;go_ret2;exact⟨_,by rw [JI.o];rfl,by rw [JI.o];exact kW.o _ _ (below_drewN cQ.o _) (λh=>by omega),below_drewN cQ.o _⟩
     .have z:¬(N:Int)=8:=(by omega);go_wp2;go_ret2;exact⟨_,by rw [JI.o];rfl,by rw [JI.o];exact kW.o _ _ (below_drewN cQ.o _) (λh=>by omega),below_drewN cQ.o _⟩
  .have i9:=fk (.inl (by unfold fA;rw [aB (λh=>a h.2.2)]));have nX:=yh i9;rw [decide_eq_false a] at b;clear i9 c a gW;generalize dN s=N at*;refine b.mono ?_;rintro e w1 ⟨k,rfl,_,ar⟩;have cQ:=yh ar;clear ar b;go_wp2;go_ret2;exact⟨_,by rw [nX.o];rfl,by rw [nX.o];exact iA.nil _ _,cQ.o⟩
def lV {r:List Int} (a:l.length=512) (b:r.length=512):am l r=if (az l).1=0/\(az r).1=0 then (0,0, [],30) else if (az l).1<(az r).1 then (1,(az r).1,(az r).2,0) else (0,(az l).1,(az l).2,0):=by
 unfold am;rw [aB (by omega)]
def ky (s:List Int):(az s).1<=9223372036854775807:=by
 unfold az;split
 .simp
 .split
  .next h=>simp only;omega
  .simp
def JJ (l r:List Int):Nat->Nat×Nat×List Int
 |0=>(0,0, [])
 |1=>if 0<(az l).1 then (0,(az l).1,(az l).2) else (0,0, [])
 |_+2=>if (if 0<(az l).1 then (0,(az l).1,(az l).2) else (0,0,([]:List Int))).2.1<(az r).1 then (1,(az r).1,(az r).2) else if 0<(az l).1 then (0,(az l).1,(az l).2) else (0,0, [])
def Vp {r:List Int} (c:l.length=512) (d:r.length=512):JJ l r 2=((am l r).1,(am l r).2.1,(am l r).2.2.1):=by
 rw [lV c d];unfold JJ;by_cases b:0<(az l).1
 .simp only [aG b];rw [aB (show¬((az l).1=0/\(az r).1=0) by omega)];by_cases a:(az l).1<(az r).1
  .simp only [aG a]
  .simp only [aB a]
 .simp only [aB b];by_cases a:0<(az r).1
  .simp only [aG a];rw [aB (show¬((az l).1=0/\(az r).1=0) by omega),aG (show (az l).1<(az r).1 by omega)]
  .simp only [aB a];rw [aG (show (az l).1=0/\(az r).1=0 by omega)]
def iA.agree (h:iA w g v l) (f:w'.heap[g]? =w.heap[g]?):iA w' g v l:=by
 obtain⟨a,c,rfl,b,j,d⟩:=h;refine⟨a,c,rfl,⟨b.1,b.2.1,λx e i k=>?_⟩,j,d⟩;rw [World.cell?_of_block (w:=w) (by rw [kD,(d x e)];exact f)];exact b.2.2 x e i k
def Zq {a b c:Value} (h:w.heap[g]? =some (.cells #[a,b,c] T (0,0))):
    (((w.setCell ⟨g,0,none⟩ x).setCell ⟨g,1,none⟩ y).setCell ⟨g,2,none⟩ z).heap[g]? =some (.cells #[x,y,z] T (0,0)):=by
 rw [heap_setCell_same _ _ _ _ _ _ (heap_setCell_same _ _ _ _ _ _ (heap_setCell_same _ _ _ _ _ _ h))];rfl
def Zr (h:w.heap[g]? =some (.cells #[x,y,z] T (0,0))):w.rangeAt g 0 [x,y,z]:=by
 intro j v a;rw [Nat.zero_add];exact aj h (by simpa using a)
def JK:(prog.info? 216).map (·.size)=some 3:=by kernel_rfl
def JL (w:World) (g:Nat) (x y z:Value):aa (λj=>j=g) w (((w.setCell ⟨g,0,none⟩ x).setCell ⟨g,1,none⟩ y).setCell ⟨g,2,none⟩ z):=
   ((aa.setCell (F:=λj=>j=g) (p:=⟨g,0,none⟩) w rfl x).trans (aa.setCell (F:=λj=>j=g) (p:=⟨g,1,none⟩) _ rfl y) (λ_ h=> .inl h)).trans (aa.setCell (F:=λj=>j=g) (p:=⟨g,2,none⟩) _ rfl z) (λ_ h=> .inl h)
def Nw (w:World) (g:Nat) (l r:List Int) (k:Nat) (wr:World):Prop:=
 ∃v,wr.heap[w.heap.size+1]? =some (.cells #[.int .i64 (((JJ l r k).1:Nat):Int), .int .i64 (((JJ l r k).2.1:Nat):Int),v] 216 (0,0))/\iA wr g v (JJ l r k).2.2/\
    (∃x y z,wr.heap[w.heap.size]? =some (.cells #[x,y,z] 216 (0,0)))/\bW w wr
def ox (g:Nat) (l r:List Int) (w:World) (s:Src w (some (aD g 0)) 512 l) (bo:Src w (some (aD g 512)) 512 r) (R:Bytes l) (T:Bytes r):
  Calls prog 178 #[pQ g] w λe w'=>∃v,e= .returned (.agg #[iV (((am l r).1:Nat):Int),iV (((am l r).2.1:Nat):Int),v])/\iA w' g v (am l r).2.2.1/\bW w w':=by
 obtain⟨J,K⟩:=bU (λw' (F:bW w w')=>yY g 0 l w' (s.later F) R) (λw' (F:bW w w')=>yY g 512 r w' (bo.later F) T);have W:g<w.heap.size:=s.old _ rfl (by omega);have kW:=yh (Vp s.1 bo.1);clear s bo;go_in;go_wp2;go_loopw [8] (λi wr=>∃k:Nat,k<=2/\i=iV k/\Nw w g l r k wr) (λi _=>2-(intOf i).toNat);case atStart=>exact⟨0,dV _,rfl, .slice none 0 0,heap_alloc2_new _ _ _,iA.nil _ _,⟨_,_,_,heap_alloc2_old _ _ _⟩,((bi _ w).alloc (bS _) _).alloc (by simp) _⟩
 case round=>
  obtain⟨k,X,rfl,E⟩:=hrel;obtain rfl|rfl|rfl:k=0\/k=1\/k=2:=by omega
  .obtain⟨v,aV,iS,jp,ev⟩:=E;have m:=J.out wr ev;have f:=yh (aH aV (aH iS (aH jp ev)));clear aV iS jp ev;generalize L6:JJ l r 0=S at*;go_wp2_with fail;refine m.mono ?_;rintro e w1 ⟨U,rfl,cq,ar⟩;obtain⟨b,c,d,iM⟩:=cq;subst d;have cq:iA w1 g _ _:=⟨b,c,rfl,iM⟩;clear iM;obtain⟨aV,iS,⟨n,p,q,jp⟩,ev⟩:=f.o;have jc:=(ar.block _ (lR.1 aV).1).trans aV;have kL:=(ar.block _ (lR.1 jp).1).trans jp;have bN:=ev.trans (ar.mono ev.size);have yZ:=iS.later ar;obtain⟨Jp,A4,Bq,Zs,XJ,Ff,M⟩:=nw (aM jc) (bG jc) (bK jc) (ae jc 0) (ae jc 1) (ae jc 2) bN.size;by_cases h0:S.2.1<(az l).1
   .have Pj:((S.2.1:Nat):Int)<(((az l).1:Nat):Int):=(by omega);have a:JJ l r 1=(0,(az l).1,(az l).2):=by
     rw [<-L6] at h0;have h0:0<(az l).1:=h0;unfold JJ;rw [aG h0]
    have eZ:=JL w1 (w.heap.size+1) (iV 0) (iV (((az l).1:Nat):Int)) (.slice b (az l).2.length c);have QO:Nw w g l r 1 (((w1.setCell ⟨w.heap.size+1,0,none⟩ (.int .i64 0)).setCell ⟨w.heap.size+1,1,none⟩ (.int .i64 (((az l).1:Nat):Int))).setCell ⟨w.heap.size+1,2,none⟩ (.slice b (az l).2.length c)):=by
     refine⟨_,by rw [a];exact(Zq (x:=iV 0) (y:=iV (((az l).1:Nat):Int)) (z:= .slice b (az l).2.length c) jc),by rw [a];exact cq.agree (eZ.block g (by omega) (by omega)),⟨n,p,q,(eZ.block _ (lR.1 kL).1 (by omega)).trans kL⟩,bN.trans (eZ.below (λj L=>by omega) bN.size)⟩
    have Zt:=yh QO;generalize (az l).1=A at*;generalize (az l).2.length=D at*;clear m f aV iS jp ev jc kL bN yZ eZ QO cq ar a;go_wp2;go_roundw;case rel=>exact⟨1,by omega,by go_num,Zt.o⟩
    case measure=>simp [intOf]
   .have Pj:¬((S.2.1:Nat):Int)<(((az l).1:Nat):Int):=(by omega);have a:JJ l r 1=S:=by
     rw [<-L6] at h0⊢;have h0:¬0<(az l).1:=h0;unfold JJ;rw [aB h0]
    have QO:Nw w g l r 1 w1:=⟨v,by rw [a];exact jc,by rw [a];exact yZ,⟨n,p,q,kL⟩,bN⟩;have Zt:=yh QO;generalize (az l).1=A at*;generalize (az l).2.length=D at*;clear m f aV iS jp ev jc kL bN yZ QO cq ar a;go_wp2;go_roundw;case rel=>exact⟨1,by omega,by go_num,Zt.o⟩
    case measure=>simp [intOf]
  .obtain⟨v,aV,iS,jp,ev⟩:=E;have m:=K.out wr ev;have f:=yh (aH aV (aH iS (aH jp ev)));clear aV iS jp ev;generalize L6:JJ l r 1=S at*;go_wp2_with fail;refine m.mono ?_;rintro e w1 ⟨U,rfl,cq,ar⟩;obtain⟨b,c,d,iM⟩:=cq;subst d;have cq:iA w1 g _ _:=⟨b,c,rfl,iM⟩;clear iM;obtain⟨aV,iS,⟨n,p,q,jp⟩,ev⟩:=f.o;have jc:=(ar.block _ (lR.1 aV).1).trans aV;have kL:=(ar.block _ (lR.1 jp).1).trans jp;have bN:=ev.trans (ar.mono ev.size);have yZ:=iS.later ar;obtain⟨Jp,A4,Bq,Zs,XJ,Ff,M⟩:=nw (aM jc) (bG jc) (bK jc) (ae jc 0) (ae jc 1) (ae jc 2) bN.size;by_cases h0:S.2.1<(az r).1
   .have Pj:((S.2.1:Nat):Int)<(((az r).1:Nat):Int):=(by omega);have a:JJ l r 2=(1,(az r).1,(az r).2):=by
     rw [<-L6] at h0;unfold JJ at h0⊢;rw [aG h0]
    have eZ:=JL w1 (w.heap.size+1) (iV 1) (iV (((az r).1:Nat):Int)) (.slice b (az r).2.length c);have QO:Nw w g l r 2 (((w1.setCell ⟨w.heap.size+1,0,none⟩ (.int .i64 1)).setCell ⟨w.heap.size+1,1,none⟩ (.int .i64 (((az r).1:Nat):Int))).setCell ⟨w.heap.size+1,2,none⟩ (.slice b (az r).2.length c)):=by
     refine⟨_,by rw [a];exact(Zq (x:=iV 1) (y:=iV (((az r).1:Nat):Int)) (z:= .slice b (az r).2.length c) jc),by rw [a];exact cq.agree (eZ.block g (by omega) (by omega)),⟨n,p,q,(eZ.block _ (lR.1 kL).1 (by omega)).trans kL⟩,bN.trans (eZ.below (λj L=>by omega) bN.size)⟩
    have Zt:=yh QO;generalize (az r).1=A at*;generalize (az r).2.length=D at*;clear m f aV iS jp ev jc kL bN yZ eZ QO cq ar a;go_wp2;go_roundw;case rel=>exact⟨2,by omega,by go_num,Zt.o⟩
    case measure=>simp [intOf]
   .have Pj:¬((S.2.1:Nat):Int)<(((az r).1:Nat):Int):=(by omega);have a:JJ l r 2=S:=by
     rw [<-L6] at h0⊢;unfold JJ at h0⊢;rw [aB h0]
    have QO:Nw w g l r 2 w1:=⟨v,by rw [a];exact jc,by rw [a];exact yZ,⟨n,p,q,kL⟩,bN⟩;have Zt:=yh QO;generalize (az r).1=A at*;generalize (az r).2.length=D at*;clear m f aV iS jp ev jc kL bN yZ QO cq ar a;go_wp2;go_roundw;case rel=>exact⟨2,by omega,by go_num,Zt.o⟩
    case measure=>simp [intOf]
  .obtain⟨v,aV,iS,⟨n,p,q,jp⟩,ev⟩:=E;rw [kW.o] at aV iS;obtain⟨b,c,d,iM⟩:=iS;subst d;have iS:iA wr g _ _:=⟨b,c,rfl,iM⟩;clear iM
   dsimp only at aV iS
   generalize Q:(am l r).2.2.1.length=D at*;obtain⟨Jp,A4,Bq,xn,iN,cI,Zs,XJ,Ff,pd,eZ,M⟩:=Fs (aM aV) (bG aV) (bK aV) (aM jp) (bG jp) (bK jp) (ae jp 0) (ae jp 1) (ae jp 2) (Zq (x:=iV (((am l r).1:Nat):Int)) (y:=iV (((am l r).2.1:Nat):Int)) (z:= .slice b D c) jp) (JL wr w.heap.size (iV (((am l r).1:Nat):Int)) (iV (((am l r).2.1:Nat):Int)) (.slice b D c)) ev.size;have fH:=iS.agree (eZ.block g (by omega) (by omega));have eR:=ev.trans (eZ.below (λj L=>by omega) ev.size);have t:=yh (aH fH eR);have G:=aM pd;have H:=bG pd;have I:=bK pd;clear aV iS jp ev eZ fH eR kW J K;have A3:=yh (Zr pd);obtain⟨A,u⟩:=bQ ((am l r).1);obtain⟨B,C⟩:=bQ ((am l r).2.1);rw [<-u] at Jp pd t G H I A3;rw [<-C] at A4 pd t G H I A3;obtain⟨N,O⟩:=bU u C;clear u C Q pd;go_wp2;exact bodyPost_ret (gw (P:=prog) rfl _ _ w.heap.size _ _ rfl A3.out underlying216 rfl JK) rfl ⟨.slice b D c,by rw [<-N.o,<-O.o],t.o⟩
end Go.Proofs.YtcpdggdfihjhoabGreat
