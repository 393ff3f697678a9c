import Derived.Test.YtenlkgicpllbhabGreatW01
import Derived.Test.YtenlkgicpllbhabGreatW02
import Derived.Test.YtenlkgicpllbhabGreatW03
import Derived.Shelf.Sort.AssemblyIn
import Derived.Sort.EveryDepth
import Derived.Sort.OwnSortedInts
import Derived.ProofKit
import Derived.OpenShut
import Derived.ShutString
import Derived.ChangeOld
import Derived.SizedLaws
import Derived.Deep.Slices
import Derived.Deep.Light
import Derived.Deep.MidRow
import Derived.Deep.Quiet
import Derived.BigQuiet
import Derived.OwnWalk
import Derived.RegionTactic
import Derived.BigRegion
import Derived.Deep.RegionLaw
import Derived.ChangeKeysEq
import Derived.ArgAppend
set_option maxRecDepth 20000
set_option maxHeartbeats 8000000
set_option linter.all false
namespace Go.Proofs.YtenlkgicpllbhabGreat
open Go.Proofs.Tryz
open Go.RowKit Go.Maps
variable {cur:Array Value} {S:DS} {a body data l l' xs:List Int} {c g k n p s:Nat} {F:Nat->Prop} {T ty:TypeId} {v:Value} {w w':World}
section
open Go.RowKit Go.Maps Go.Shelf Go.Sort
theorem vL:yt:=by
 intro g b zs w f ef;have c:=f.le;have Pa:=f;obtain⟨cur,i,m,j,p⟩:=Pa;have d:(zs.map (Value.int .i64)).length=zs.length:=by simp
 rw [d] at c j;have l:=holds_of_blockI i j;refine(calls_of_every_depth λD=>AnyS.slices_Sort_int_in Tryz.lays189 D g 0 b zs w l f.lt ef).mono ?_;rintro e w' ⟨rfl,n,os,rfl⟩;have q:(zs.mergeSort λx y=>decide (x<=y)).length=zs.length:=List.length_mergeSort _;have a:=grownBy_sortedI (w:=w) (g:=g) (n:=n) (os:=os) (zs.mergeSort λx y=>decide (x<=y)).toArray;refine⟨rfl,⟨_,heap_sortedI _ i,by simp [putCells,m],?_,p⟩,⟨a.os,a.tape,a.output,a.size,λk o dG=>a.block k o (by simpa using dG)⟩⟩;rw [List.length_map];exact take_putCellsI cur _ (by omega)
theorem UP (w:World):Calls prog 198 #[.slice none 0 0,iV 0,iV 0] w λe w'=>e= .returned (.tuple #[])/\w'=w:=by
 go_in;go_wp2;refine wp_loop_rounds 1 ?_;rw [rounds_succ];go_wp2
 go_end0
 exact⟨rfl,rfl⟩
theorem UQ (n:Int) (w:World):Calls prog 167 #[.slice none 0 0,iV 0,iV 0,iV n] w λe w'=>e= .returned (.tuple #[])/\w'=w:=by
 go_in;go_wp2;refine wp_loop_rounds 1 ?_;rw [rounds_succ];go_wp2_with (go_at_call 198;refine(UP _).mono ?_;rintro e w' ⟨rfl,rfl⟩);exact bodyPost_ret (results_none rfl _ _ _) rfl ⟨rfl,rfl⟩
theorem vM:Dq:=by
 intro w;go_in;go_wp2_with (first|(go_at_call 167;refine(UQ _ _).mono ?_;rintro e w' ⟨rfl,rfl⟩)|go_in)
 go_end0
 exact⟨rfl,RowKit.Below.refl _ _⟩
end
def DS.wr (S:DS) (s:Nat) (x:Int) (n:Nat) (l:List Int):Int×DS:=
 if S.fuse=0 then (3,S) else if x<0\/(s:Int)<=x then (11,S.refuse) else if n≠512 then (2,S.refuse) else (0,(S.put x.toNat l).wrote.fY)
def DS.rd (S:DS) (s:Nat) (x:Int):Int×DS×List Int:=
 if S.fuse=0 then (3,S, []) else if x<0\/(s:Int)<=x then (11,S.refuse, []) else (0,S.read,S.now x.toNat)
def DS.fl (S:DS) (s:Nat):Int×DS:=if S.fuse=0 then (3,S) else (0,(S.flush s).fY)
theorem aP.more (h:aP w' F p s S):aP w' (more F w w') p s S:=
 h.mono (λ_ a=> .inl a) (λk a=>by rcases a with a|a;exact h.lt k a;exact a.2)
theorem uQ (h:aP w F p s S) (x:Int) (a:Option Addr) (n c:Nat) (l:List Int) (m:Src w a n l) (aT:S.puts.length+1<=4000000000000):
  Calls prog 40 #[pQ p,iV x, .slice a n c] w λe w'=>e= .returned (iV (S.wr s x n l).1)/\aP w' (more F w w') p s (S.wr s x n l).2/\aa F w w':=by
 by_cases b:S.fuse=0
 .simp only [DS.wr,b,if_true];refine(Jj h x a n c b).mono ?_;rintro e w' ⟨rfl,rfl⟩;exact⟨rfl,h.more,aa.refl _ _⟩
 .by_cases d:x<0\/(s:Int)<=x
  .simp only [DS.wr,b,if_false,d,if_true];refine(Fy h x a n c b d).mono ?_;rintro e w' ⟨rfl,f,g⟩;exact⟨rfl,f.more,g⟩
  .obtain⟨k,rfl⟩:∃k:Nat,x=(k:Int):=⟨x.toNat,by omega⟩;have j:k<s:=(by omega);by_cases i:n=512
   .subst i;simp only [DS.wr,b,if_false,d,ne_eq,not_true_eq_false,Int.toNat_natCast];obtain⟨y,rfl⟩:∃y,a=some y:=by
     cases a with
     |none=>have:=m.2.1 rfl;omega
     |some y=>exact⟨y,rfl⟩
    exact PO h k j b (by omega) y c l m
   .simp only [DS.wr,b,if_false,d,ne_eq,i,not_false_eq_true,if_true];refine(Dn h k a n c b j i).mono ?_;rintro e w' ⟨rfl,f,g⟩;exact⟨rfl,f.more,g⟩
def Out (lo:Nat) (w:World) (l:List Int) (v:Value):Prop:=∃a c,v= .slice a l.length c/\Src w a l.length l/\∀x,a=some x->lo<=x.block
theorem Out.nil (b:Nat) (w:World):Out b w [] (.slice none 0 0):=⟨none,0,rfl,⟨rfl,λ_=>rfl,λx a=>by cases a⟩,λx a=>by cases a⟩
theorem Out.row {a:Nat} (h:ay w 5 g c (bs l)) (b:a<=g):Out a w l (.slice (some (aD g 0)) l.length c):=⟨_,c,rfl,h.src,λx d=>by cases d;exact b⟩
theorem tt (h:aP w F p s S) (x:Int) (aT:S.puts.length+1<=4000000000000):
  Calls prog 68 #[pQ p,iV x] w λe w'=>∃v,e= .returned (.tuple #[v,iV (S.rd s x).1])/\Out w.heap.size w' (S.rd s x).2.2 v/\aP w' F p s (S.rd s x).2.1/\aa F w w':=by
 by_cases a:S.fuse=0
 .simp only [DS.rd,a,if_true];refine(BY h x a).mono ?_;rintro e w' ⟨rfl,rfl⟩;exact⟨_,rfl,Out.nil _ _,h,aa.refl _ _⟩
 .by_cases f:x<0\/(s:Int)<=x
  .simp only [DS.rd,a,if_false,f,if_true];refine(Jf h x a f).mono ?_;rintro e w' ⟨rfl,b,d⟩;exact⟨_,rfl,Out.nil _ _,b,d⟩
  .obtain⟨k,rfl⟩:∃k:Nat,x=(k:Int):=⟨x.toNat,by omega⟩;have i:k<s:=(by omega);simp only [DS.rd,a,if_false,f,Int.toNat_natCast];refine(LI h k a i (by omega)).mono ?_;rintro e w' ⟨g,c,rfl,j,l,b,d⟩;have:=Out.row l j;rw [br h.ok k i] at this;exact⟨_,rfl,this,b,d⟩
theorem Dc (h:aP w F p s S) (aT:S.puts.length+1<=4000000000000):
  Calls prog 41 #[pQ p] w λe w'=>e= .returned (iV (S.fl s).1)/\aP w' F p s (S.fl s).2/\aa F w w':=by
 by_cases a:S.fuse=0
 .simp only [DS.fl,a,if_true];refine(Ly h a).mono ?_;rintro e w' ⟨rfl,rfl⟩;exact⟨rfl,h,aa.refl _ _⟩
 .simp only [DS.fl,a,if_false];exact TP h a (by omega)
theorem Src.lI {B:Nat} {a:Option Addr} (h:Src w a n l) (d:Below B w w') (c:∀x,a=some x->0<n->x.block<B):Src w' a n l:=
   ⟨h.1,h.2.1,λx b i e=>(World.cell?_of_block (w:=w) (by rw [ku];exact d.block _ (c x b (by omega)))).trans (h.2.2 x b i e)⟩
theorem kS.lI {B:Nat} {a:Option Addr} {l:List P3} (h:kS w a n l) (k:Below B w w') (j:∀x,a=some x->0<n->x.block<B):kS w' a n l:=by
 refine⟨h.1,h.2.1,λx c i m=>?_,h.2.2.2⟩;obtain⟨b,o,rfl,d,f,g⟩:=h.2.2.1 x c i m;have e:=k.block b (j _ c (by have:=h.1;omega));exact⟨b,o,rfl,(World.cell?_of_block (w:=w) (a:=(aD b _)) e).trans d,(World.cell?_of_block (w:=w) (a:=(aD b _)) e).trans f,(World.cell?_of_block (w:=w) (a:=(aD b _)) e).trans g⟩
theorem Out.keeps {d:Nat} (h:Out d w l v) (p:aa F w w') (m:∀k,F k->k<d):Out d w' l v:=by
 obtain⟨a,c,rfl,b,g⟩:=h;refine⟨a,c,rfl,⟨b.1,b.2.1,λx j i o=>?_⟩,g⟩;have e:=b.2.2 x j i o;have f:=World.block_lt_of_cell? _ _ e;rw [ku] at f;exact(World.cell?_of_block (w:=w) (by rw [ku];exact p.block _ f (λn=>by have:=m _ n;have:=g x j;omega))).trans e
theorem i9 (S:DS) (s:Nat) (x:Int) (n:Nat) (l:List Int):(S.wr s x n l).2.puts.length<=S.puts.length+1:=by
 unfold DS.wr;split
 .simp
 .split
  .simp [DS.refuse]
  .split
   .simp [DS.refuse]
   .simp [DS.put,DS.wrote,DS.fY]
theorem xU (S:DS) (s:Nat):(S.fl s).2.puts.length<=S.puts.length+1:=by
 unfold DS.fl;split
 .simp
 .simp [DS.flush,DS.fY]
theorem aI (w:World) (o:Obj):bW w (w.alloc o):=(bi _ _).alloc (bP _) _
def nx (body:List Int):List Int:=((body.length%256:Nat):Int) :: ((body.length / 256:Nat):Int) :: (body ++ List.replicate (504-body.length) 0)
def be (t:Int) (body:List Int):List Int:=
 t :: ((body.length%256:Nat):Int) :: ((body.length / 256:Nat):Int) :: (nV (sumOf (nx body)) ++ (body ++ (List.replicate (504-body.length) 0 ++ [t])))
def cD (a b:Int):Nat:=if a≠0/\b≠0 then 0 else if a≠1/\b≠1 then 1 else 2
theorem gd (a b:Int):cD a b<=2:=by unfold cD;split <;> (try split) <;> omega
theorem B9 (a b:Int):((cD a b:Nat):Int)≠a/\((cD a b:Nat):Int)≠b:=by
 unfold cD;by_cases h:a≠0/\b≠0
 .rw [aE h];omega
 .rw [aA h];by_cases c:a≠1/\b≠1
  .rw [aE c];omega
  .rw [aA c];omega
theorem nZ (s:Nat):(nV s).length=4:=rfl
theorem Dv (s:Nat):Bytes (nV s):=by
 intro x a;simp only [nV,List.mem_cons,List.not_mem_nil,or_false] at a;omega
theorem fj {t:Int} (h:body.length<=504):(be t body).length=512:=by simp [be,nZ];omega
theorem Bytes.append {b:List Int} (c:Bytes a) (d:Bytes b):Bytes (a ++ b):=λx e=>(List.mem_append.1 e).elim (c x) (d x)
theorem Bytes.cons {a:Int} {b:List Int} (c:0<=a/\a<256) (d:Bytes b):Bytes (a :: b):=λx e=>(List.mem_cons.1 e).elim (λh=>h▸c) (d x)
theorem Bytes.nil:Bytes []:=λ_ a=>by cases a
theorem Bytes.tu (n:Nat):Bytes (List.replicate n 0):=λx a=>by rw [List.eq_of_mem_replicate a];omega
theorem Bytes.take (h:Bytes l) (n:Nat):Bytes (l.take n):=λx a=>h x (List.mem_of_mem_take a)
theorem Bytes.drop (h:Bytes l) (n:Nat):Bytes (l.drop n):=λx a=>h x (List.mem_of_mem_drop a)
theorem Bytes.getD (h:Bytes l) (i:Nat):0<=l.getD i 0/\l.getD i 0<256:=by
 by_cases a:i<l.length
 .have:=h l[i] (List.getElem_mem a);simpa [List.getD,a] using this
 .simp [List.getD,List.getElem?_eq_none (Nat.le_of_not_lt a)]
theorem vN (h:Bytes body) (a:body.length<=504):Bytes (nx body):=
   .cons (by omega) (.cons (by omega) (h.append (.tu _)))
theorem vO {t:Int} (h:Bytes body) (b:body.length<=504) (a:0<=t/\t<256):Bytes (be t body):=
   .cons a (.cons (by omega) (.cons (by omega) ((Dv _).append (h.append ((Bytes.tu _).append (.cons a .nil))))))
def dM (s:List Int):Nat:=(s.getD 1 0+256*s.getD 2 0).toNat
def dH (s:List Int):List Int:=(s.drop 7).take (dM s)
def fv (s:List Int):Option (List Int):=if dM s<=504/\s.getD 0 0<=2/\be (s.getD 0 0) (dH s)=s then some (dH s) else none
theorem Ca (t:Int) (body:List Int) (h:body.length<=504):dM (be t body)=body.length:=by
 simp [dM,be,List.getD];omega
theorem Jn (t:Int) (body:List Int):(be t body).drop 7=body ++ (List.replicate (504-body.length) 0 ++ [t]):=by
 simp [be,nV]
theorem Jo (t:Int) (body:List Int) (h:body.length<=504):dH (be t body)=body:=by
 rw [dH,Ca t body h,Jn];simp
theorem pr (t:Int) (body:List Int):(be t body).getD 0 0=t:=rfl
theorem yA (t:Int) (body:List Int) (h:body.length<=504):(be t body).getD 511 0=t:=by
 have e:be t body=(t :: ((body.length%256:Nat):Int) :: ((body.length / 256:Nat):Int) :: (nV (sumOf (nx body)) ++ (body ++ List.replicate (504-body.length) 0))) ++ [t]:=by
  simp [be]
 rw [e,List.getD,List.getElem?_append_right (by simp [nZ];omega)];have:511-(t :: ((body.length%256:Nat):Int) :: ((body.length / 256:Nat):Int) :: (nV (sumOf (nx body)) ++ (body ++ List.replicate (504-body.length) 0))).length=0:=by
  simp [nZ];omega
 rw [this];rfl
theorem Jp (t:Int) (body:List Int) (h:body.length<=504) (a:t<=2):fv (be t body)=some body:=by
 unfold fv;rw [Ca t body h,pr,Jo t body h,aE ⟨h,a,rfl⟩]
theorem oc {s:List Int} (h:fv s=some body):dM s<=504/\s.getD 0 0<=2/\be (s.getD 0 0) (dH s)=s/\body=dH s:=by
 unfold fv at h;split at h
 .next hc=>exact⟨hc.1,hc.2.1,hc.2.2,(Option.some.inj h).symm⟩
 .cases h
theorem lE {s:List Int} (h:dM s<=504) (a:s.length=512):(dH s).length=dM s:=by
 simp [dH];omega
theorem qD {s:List Int} (h:fv s=some body) (b:s.length=512):body.length<=504:=by
 obtain⟨a,_,_,rfl⟩:=oc h;rw [lE a b];exact a
theorem Jq {s:List Int} (h:fv s=some body) (b:s.length=512):s.getD 511 0=s.getD 0 0:=by
 obtain⟨c,_,a,rfl⟩:=oc h;rw [<-a,yA _ _ (qD h b),pr]
def xu (s:List Int):List Int:=(s.drop 1).take 2 ++ (s.drop 7).take 504
def sanchor (s:List Int):Nat×List Int:=
 match fv s with
 |none=>(0, [])
 |some body=>if 8<=body.length/\le (body.take 8)<9223372036854775808 then (le (body.take 8),body.drop 8) else (0, [])
def am (l r:List Int):Nat×Nat×List Int×Nat:=
 if l.length≠512\/r.length≠512 then (0,0, [],2) else
 if (sanchor l).1=0/\(sanchor r).1=0 then (0,0, [],30) else
 if (sanchor l).1<(sanchor r).1 then (1,(sanchor r).1,(sanchor r).2,0) else (0,(sanchor l).1,(sanchor l).2,0)
def aQ (n:Nat):List Int:=(List.range 8).map (λk=>((n / 256 ^ k%256:Nat):Int))
def gg (old body:List Int):List Int×Nat:=
 if old.length≠512 then ([],2) else if 504<body.length then ([],7) else (be (cD (old.getD 0 0) (old.getD 511 0)) body,0)
def aR (s:List Int):List Int×Nat:=
 if s.length≠512 then ([],2) else match fv s with|none=>([],30)|some b=>(b,0)
def aN (l r:List Int) (number:Int) (data:List Int):Nat×List Int×Nat:=
 if l.length≠512\/r.length≠512 then (0, [],2) else
 if number<1 then (0, [],1) else
 if 496<data.length then (0, [],7) else
 let a:=am l r
 if number<=a.2.1 then (0, [],31) else
 if a.2.2.2=0/\a.1=0 then (1,be (cD (r.getD 0 0) (r.getD 511 0)) (aQ number.toNat ++ data),0)
 else (0,be (cD (l.getD 0 0) (l.getD 511 0)) (aQ number.toNat ++ data),0)
def away:Nat->Nat->Bool
 |0,_=>true
 |n+1,s=>if cb s=1 then false else away n (cb s)
theorem Cb:∀(n s:Nat),away n s=true->∀a,a<n->cbs (a+1) s≠1
 |0,_,_,a,ha=>by omega
 |n+1,s,h,a,ha=>by
  unfold away at h;split at h
  .cases h
  .next hc=>
   cases a with
   |zero=>exact hc
   |succ a=>exact Cb n (cb s) h a (by omega)
theorem order {a:Nat} (h0:0<a) (b:a<=4080):cbs a 1≠1:=by
 have h:away 4080 1=true:=by decide+kernel
 have:=Cb 4080 1 h (a-1) (by omega);rwa [show a-1+1=a by omega] at this
theorem UR {α:Type} {o:Option α} (h:∀x,o=some x->False):o=none:=by
 cases o with
 |none=>rfl
 |some x=>exact(h x rfl).elim
theorem Cc {m:List Int} (b:m.length=512) (h:m.getD 0 0≠m.getD 511 0):fv m=none:=
 UR λ_ a=>h (Jq a b).symm
def rk (a b:List Int) (c:Nat):List Int:=a.take c ++ b.drop c
theorem FG {b:List Int} (d:a.length=512) (e:b.length=512) (f:c<=512):(rk a b c).length=512:=by simp [rk];omega
theorem yB {b:List Int} (d:a.length=512) (h0:0<c):(rk a b c).getD 0 0=a.getD 0 0:=by
 rw [rk,List.getD,List.getElem?_append_left (by simp;omega),List.getElem?_take,aE h0];rfl
theorem Cd {b:List Int} (d:a.length=512) (e:c<512):(rk a b c).getD 511 0=b.getD 511 0:=by
 rw [rk,List.getD,List.getElem?_append_right (by simp;omega),List.getElem?_drop];simp only [List.length_take,d,List.getD];rw [show c+(511-min c 512)=511 by omega]
theorem Ce (a b:List Int):rk a b 0=b:=by simp [rk]
theorem FH {b:List Int} (c:a.length=512) (d:b.length=512):rk a b 512=a:=by
 simp [rk,nh (Nat.le_of_eq c),List.drop_eq_nil_of_le (Nat.le_of_eq d)]
theorem aou {o:List Int} (b:o.length=512) {t:Int} (h0:t≠o.getD 0 0) (i:t≠o.getD 511 0) (e:body.length<=504) (d:c<=512):
    (rk o (be t body) c=o\/rk o (be t body) c=be t body\/fv (rk o (be t body) c)=none)/\
    (rk (be t body) o c=o\/rk (be t body) o c=be t body\/fv (rk (be t body) o c)=none):=by
 have a:=fj (t:=t) e;by_cases f:c=0
 .subst f;exact⟨.inr (.inl (Ce _ _)), .inl (Ce _ _)⟩
 .by_cases g:c=512
  .subst g;exact⟨.inl (FH b a), .inr (.inl (FH a b))⟩
  .refine⟨.inr (.inr (Cc (FG b a d) ?_)), .inr (.inr (Cc (FG a b d) ?_))⟩
   .rw [yB b (by omega),Cd b (by omega),yA t body e];exact λh=>h0 h.symm
   .rw [yB a (by omega),Cd a (by omega),pr];exact i
theorem Cf (n:Nat):aQ n= [((n%256:Nat):Int),((n / 256%256:Nat):Int),((n / 65536%256:Nat):Int),((n / 16777216%256:Nat):Int),((n / 4294967296%256:Nat):Int),((n / 1099511627776%256:Nat):Int),((n / 281474976710656%256:Nat):Int),((n / 72057594037927936%256:Nat):Int)]:=by
 simp [aQ,List.range,List.range.loop]
theorem dN (n:Nat):(aQ n).length=8:=by simp [aQ]
theorem iC (n:Nat):Bytes (aQ n):=by
 intro x a;obtain⟨j,_,rfl⟩:=List.mem_map.1 a;omega
theorem MQ (h:n<18446744073709551616):le (aQ n)=n:=by
 rw [Cf];simp only [le,Int.toNat_natCast];omega
theorem Dw {t:Int} (c:t<=2) (b:n<9223372036854775808) (hd:data.length<=496):sanchor (be t (aQ n ++ data))=(n,data):=by
 have a:=dN n;unfold sanchor;rw [Jp _ _ (by simp [a];omega) c];simp only [List.take_left' a,List.drop_left' a,MQ (show n<18446744073709551616 by omega)];rw [aE ⟨by simp [a],b⟩]
def yC (l r:List Int) (slot:Nat) (s:List Int):List Int×List Int:=if slot=0 then (s,r) else (l,s)
theorem tw {r:List Int} (k:l.length=512) (m:r.length=512) (f:n<9223372036854775808) (i:1<=n) (hd:data.length<=496) (uE:(am l r).2.1<n) {t:Int} (g:t<=2) (a:Nat)
    (b:a=if (am l r).2.2.2=0/\(am l r).1=0 then 1 else 0):
  am (yC l r a (be t (aQ n ++ data))).1 (yC l r a (be t (aQ n ++ data))).2=(a,n,data,0):=by
 have d:=Dw g f hd;have j:(be t (aQ n ++ data)).length=512:=fj (by simp [dN];omega);generalize be t (aQ n ++ data)=s at*;have e:am l r=if (sanchor l).1=0/\(sanchor r).1=0 then (0,0, [],30) else if (sanchor l).1<(sanchor r).1 then (1,(sanchor r).1,(sanchor r).2,0) else (0,(sanchor l).1,(sanchor l).2,0):=by
  unfold am;rw [aA (by omega)]
 rw [e] at b uE;by_cases z:(sanchor l).1=0/\(sanchor r).1=0
 .rw [aE z] at b uE;have:a=0:=by rw [b];rfl
  subst this;simp only [yC,if_true,am];rw [aA (by omega),d,aA (by simp;omega),aA (by simp;omega)]
 .rw [aA z] at b uE;by_cases q:(sanchor l).1<(sanchor r).1
  .rw [aE q] at b uE;have:a=0:=(by rw [b];rfl);subst this;simp only [yC,if_true,am];rw [aA (by omega),d,aA (by simp;omega),aA (by simp at uE⊢;omega)]
  .rw [aA q] at b uE;have:a=1:=(by rw [b];rfl);subst this;have c:¬(1:Nat)=0:=(by omega);simp only [yC,aA c,am];rw [aA (by omega),d,aA (by simp;omega),aE (by simp at uE⊢;omega)]
section
open Go.ChangeShapes Go.WideShapes Go.ChangeAt Go.RowKit Go.Deep
theorem px:ownKnob prog.godebug=none:=by kernel_rfl
theorem laidOut:laidOutB prog=true:=by kernel_rfl
theorem US:prog.bytesOf 5=1:=by kernel_rfl
theorem UT:prog.cellsOf 5=1:=by kernel_rfl
theorem fK:prog.cellsOf 3=1:=by kernel_rfl
theorem yD:prog.cellsOf 22=1:=by kernel_rfl
theorem ab9 {n:Int} (h:(Lit.int .u8 n).wf=true):0<=n/\n<256:=by
 have:=h;simp [Lit.wf,IntKind.min,IntKind.max,IntKind.bits,IntKind.signed] at this;omega
section
variable {H:Type} {enc:TypeId×Value->H} {W:World} {base:Nat} {spare:Nat->Bool} {held:Bool}
theorem py {P:Program} {e:TypeId} {n:Nat}:∀{a:List (DataW H)} {d:DataW H},d∈a->n∈d.weights P e->n∈DataW.weightsAll P e a
 |d :: r,d',hd,hn=>by
  rw [DataW.weightsAll];rcases List.mem_cons.1 hd with rfl|h
  .exact List.mem_append_left _ hn
  .exact List.mem_append_right _ (py h hn)
theorem Xf {P:Program} {e:TypeId} {b c d:Field} {cs:List Value} {x:DataW H×List MemPlace} (q:P.underlying e=some (.struct #[b,c,d])) (p:P.cellsOf e=3) (r:b.offset=0) (s:c.offset=1) (t:d.offset=2)
    (l:P.cellsOf b.type=1) (m:P.cellsOf c.type=1) (o:P.cellsOf d.type=1) (h:DataW.trod enc P W base spare held n e cs=some x):
  ∃v0 v1 v2 y0 y1 y2 k,cs= [v0,v1,v2]/\x.1= .agg [y0.1,y1.1,y2.1]/\DataW.trod enc P W base spare held k b.type [v0]=some y0/\DataW.trod enc P W base spare held k c.type [v1]=some y1/\DataW.trod enc P W base spare held k d.type [v2]=some y2:=by
 obtain⟨xs,k,_,WT,a,Fb,f⟩:=DataW.trod_struct q h;rw [p] at a
 match xs,Fb,cs,a with
 | [y0,y1,y2],_, [v0,v1,v2],_=>
  have g:=f 0 b rfl;have i:=f 1 c rfl;have j:=f 2 d rfl;simp [r,s,t,l,m,o] at g i j;exact⟨v0,v1,v2,y0,y1,y2,k,rfl,by rw [WT];rfl,g,i,j⟩
theorem jV {b:Nat} {d:DataW H} {r:List MemPlace} (h:DataW.trod enc prog W base spare held b 22 [v]=some (d,r)) (o:∀n∈d.weights prog 22,n<=reachBytes):
  ∃a n c l,v= .slice a n c/\Src W a n l/\Bytes l/\n<=c/\n<=140737488355328:=by
 rcases open_ints underlying22 underlying5 UT h with ⟨nY,_⟩|⟨x,l,c,zs,nY,_,m,s,g,hd,du,e⟩
 .simp only [List.cons.injEq,and_true] at nY;exact⟨none,0,0, [],nY,⟨rfl,λ_=>rfl,λx f=>by cases f⟩,(λx f=>by cases f),bP _,dU _⟩
 .simp only [List.cons.injEq,and_true] at nY;simp only [Prod.mk.injEq] at hd;obtain⟨rfl,rfl⟩:=hd;have q:l<=zs.length:=by rw [g];split <;> omega
  have j:=o ((((lits IntKind.u8 (zs.take l):List (DataW H))).length+((lits IntKind.u8 (zs.drop l):List (DataW H))).length)*prog.bytesOf 5) (by simp [DataW.weights,underlying22]);rw [US] at j;simp only [lits,List.length_map,List.length_take,List.length_drop,reachBytes] at j;refine⟨some x,l,c,zs.take l,nY,⟨by simp;omega,(λh=>by cases h),λy p i k=>?_⟩,λz g=>ab9 (e z (List.mem_of_mem_take g)),m,by omega⟩;cases p;rw [du i (by omega)];simp [List.getD,k]
end
end
def xv:List Value:=(List.range 16).map (λj=>Value.int .u32 ((cbs 4 j:Nat):Int))
theorem Dx:xv.length=16:=by simp [xv]
theorem UU:∀v∈xv,v.oneCell'=true:=by
 intro v a;obtain⟨j,_,rfl⟩:=List.mem_map.1 a;rfl
theorem Dy:(prog.info? 208).map (·.size)=some xv.length:=by rw [Dx];kernel_rfl
theorem ahE (r:Nat) (a:r<4294967296):bits .and .u32 (r:Int) 1=((r%2:Nat):Int):=by
 have:=u32_and_nat r 1 a (by omega);rw [Nat.and_one_is_mod] at this;exact this
theorem UV (r:Nat) (c:r<4294967296):bits .xor .u32 ((r:Int) / 2) (2197175160*((r:Int)%2))=((cb r:Nat):Int):=by
 have a:((r:Int) / 2)=((r / 2:Nat):Int):=by omega
 have b:(2197175160*((r:Int)%2))=(((if r%2=1 then 2197175160 else 0):Nat):Int):=by
  split <;> omega
 rw [a,b,u32_xor_nat _ _ (by omega) (by split <;> omega)];rfl
theorem aa.setCells {F:Nat->Prop} {b:Nat} (a:F b):∀(c:List Value) (o:Nat) (w:World),aa F w (w.setCells b o c)
 | [],_,w=>aa.refl F w
 |v :: r,o,w=>(aa.setCell (p:=⟨b,o,none⟩) w a v).trans (aa.setCells a r (o+1) _) (λ_ h=> .inl h)
theorem mK {b:Nat}:∀(a:List Value) (o:Nat) (w:World),(w.setCells b o a).heap.size=w.heap.size
 | [],_,_=>rfl
 |v :: r,o,w=>by simp only [World.setCells];rw [mK r];simp [World.setCell]
theorem gh {P:Program} {c:Func} {p:Tmp} (h:c.results= #[.cell p ty]) (a:Array Value) (w:World) (g:Nat) (cs:List Value) (d:TypeDesc)
    (i:a.getD p undef=pQ g) (e:w.rangeAt g 0 cs) (j:P.underlying ty=some d) (hd:d.isRow=true) (f:(P.info? ty).map (·.size)=some cs.length):
    (results c a).run P w= .ok (.agg cs.toArray) w:=by
 have b:a[p]?.getD undef=pQ g:=by simpa using i
 simp [results,h,b,asAddr,run_loadVar_mid w g 0 ty cs d e j hd f]
def MR (w wr:World) (k:Nat):Prop:=
 bW w wr/\wr.heap.size=w.heap.size+2/\(∃cur:Array Value,cur.size=16/\wr.heap[w.heap.size]? =some (.cells cur 208 (0,0)))/\
  ∃cs:List Int,cs.length=16/\wr.heap[w.heap.size+1]? =some (.cells (cs.map (Value.int .u32)).toArray 208 (0,0))/\∀j,j<k->cs[j]? =some ((cbs 4 j:Nat):Int)
theorem MR.next {wr:World} (h:MR w wr k) (g:k<16):(∃v,wr.cell? ⟨w.heap.size+1,k,none⟩=some (.int .u32 v))/\wr.frozen? ⟨w.heap.size+1,k,none⟩=false/\
  MR w (wr.setCell ⟨w.heap.size+1,k,none⟩ (.int .u32 ((cbs 4 k:Nat):Int))) (k+1):=by
 obtain⟨a,f,⟨cur,b,WS⟩,cs,d,aZ,nY⟩:=h;have mb:k<cs.length:=by omega
 refine⟨⟨cs[k],aj aZ (by simp [mb])⟩,ae aZ k,?_,?_,⟨cur,b,?_⟩,cs.set k ((cbs 4 k:Nat):Int),by simp [d],?_,?_⟩
 .exact a.trans ((aa.setCell (F:=λj=>j=w.heap.size+1) (p:=⟨w.heap.size+1,k,none⟩) wr rfl _).below (λj c=>by omega) (by omega))
 .simpa [World.setCell] using f
 .rw [Below.heap_setCell _ _ _ _ (by simp)];exact WS
 .rw [heap_setCell_same _ _ _ _ _ _ aZ];congr 2;apply Array.ext';simp [List.map_set]
 .intro j c;by_cases e:j=k
  .subst e;simp [mb]
  .rw [List.getElem?_set_ne (by omega)];exact nY j (by omega)
theorem MR.done {wr:World} (h:MR w wr 16):wr.rangeAt (w.heap.size+1) 0 xv/\wr.there w.heap.size 0 xv.length:=by
 obtain⟨c,f,⟨cur,d,WS⟩,cs,e,aZ,nY⟩:=h;constructor
 .intro j v b;have a:j<16:=by
   have:=(mG.1 b).1;rwa [Dx] at this
  rw [Nat.zero_add];refine aj aZ ?_;rw [<-b];simp [xv,nY j a,a]
 .intro j a;rw [Dx] at a;rw [Nat.zero_add];exact⟨by rw [aj WS (j:=j) (u:=cur[j]'(by omega)) (by simp [show j<cur.size by omega])];rfl,ae WS j⟩
theorem Jr (w:World):
  Calls prog 177 #[] w λe w'=>e= .returned (.agg xv.toArray)/\bW w w':=by
 go_in;go_wp2;go_loopw [5] (λi wr=>∃k:Nat,k<=16/\i=iV k/\MR w wr k) (λi _=>16-(intOf i).toNat);case atStart=>
  refine⟨0,dU _,rfl,Below.alloc (Below.alloc (bi _ _) (bP _) _) (by simp) _,by simp,⟨_,?_,heap_alloc2_old _ _ _⟩,List.replicate 16 0,by simp,?_,λj b=>by omega⟩
  .rfl
  .rw [heap_alloc2_new];rfl
 case round=>
  obtain⟨k,f,rfl,P7⟩:=hrel;by_cases bm:k<16
  .have cw:(k:Int)<16:=(by omega);obtain⟨⟨l,c⟩,d,acc⟩:=P7.next bm;go_wp2;go_loopw [3,10] (λr i wx=>∃m:Nat,m<=4/\i=iV m/\wx=wr/\r= .int .u32 ((cbs m k:Nat):Int)) (λ_ i _=>4-(intOf i).toNat);case atStart=>exact⟨0,dU _,rfl,rfl,rfl⟩
   case round=>
    obtain⟨m,g,rfl,rfl,rfl⟩:=hrel;have a:cbs m k<4294967296:=uH m (by omega);by_cases xw:m<4
    .have Bm:(m:Int)<4:=(by omega);have aq:=ahE (cbs m k) a;have bz:cb (cbs m k)=cbs (m+1) k:=(by rw [sY];rfl);go_wp2;go_roundw;case rel=>exact⟨m+1,by omega,by go_num,trivial,by rw [<-bz,<-(UV (cbs m k) a)]⟩
     case measure=>simp [intOf];omega
    .have Bm:¬(m:Int)<4:=(by omega);have YK:m=4:=(by omega);subst YK;go_wp2;go_roundw;case rel=>exact⟨k+1,by omega,by go_num,acc⟩
     case measure=>simp [intOf];omega
  .have cw:¬(k:Int)<16:=(by omega);have ahF:k=16:=(by omega);subst ahF;obtain⟨A6,dZ⟩:=P7.done;have iD:=P7.1;have bR:=all_oneCell_toArray UU;go_wp2_with (first|refine wpList_load_mid rfl 208 _ rfl (w.heap.size+1) 0 rfl xv _ A6 underlying208 rfl Dy ?_|refine wpList_store_mid rfl 208 _ _ rfl w.heap.size 0 xv.toArray rfl rfl ?h1 ?h2 bR ?_);case h2=>exact Option.map_eq_some_iff.1 Dy
   exact bodyPost_ret (gh (P:=prog) rfl _ _ w.heap.size xv _ rfl (World.rangeAt_setCells_same wr w.heap.size 0 xv dZ) underlying208 rfl Dy) rfl ⟨rfl,iD.trans ((aa.setCells (F:=λj=>j=w.heap.size) rfl xv 0 wr).below (λj b=>by omega) iD.size)⟩
theorem P8 (a:w.heap[g]? =some (.cells xv.toArray 208 (0,0))) (i:Nat) (b:i<16):w.cell? (aD g i)=some (.int .u32 ((cbs 4 i:Nat):Int)):=
 aj a (by simp [xv,b])
theorem Xg (r:Nat) (a:r<4294967296):bits .and .u32 (r:Int) 15=((r%16:Nat):Int):=by
 have:=u32_and_nat r 15 a (by omega);rw [show (15:Nat)=2 ^ 4-1 from rfl,Nat.and_two_pow_sub_one_eq_mod] at this;exact this
theorem FI (r:Nat) (b:r<4294967296):bits .xor .u32 ((r:Int) / 16) ((cbs 4 (r%16):Nat):Int)=((cbs 4 r:Nat):Int):=by
 have a:((r:Int) / 16)=((r / 16:Nat):Int):=by omega
 rw [a,u32_xor_nat _ _ (by omega) (uH 4 (by omega)),<-UC]
theorem FJ (b o n c:Nat) (l:List Int) (w:World) (d:Bytes l) (F:l.length=n) (G:n<=140737488355328) (p:∀i,i<n->w.cell? ⟨b,o+i,none⟩=some (.int .u8 (l.getD i 0))):
  Calls prog 176 #[.agg xv.toArray, .int .u32 4294967295, .slice (some (aD b o)) n c] w λe w'=>e= .returned (.int .u32 ((mX 4294967295 l:Nat):Int))/\bW w w':=by
 go_in;go_wp2;go_loopw [1,11] (λr i wr=>∃k:Nat,k<=n/\i=iV k/\wr=w.alloc (.cells xv.toArray 208)/\r= .int .u32 ((mX 4294967295 (l.take k):Nat):Int)) (λ_ i _=>n-(intOf i).toNat);case atStart=>exact⟨0,dU _,rfl,rfl,by simp [sZ]⟩
 case round=>
  obtain⟨k,E,rfl,rfl,rfl⟩:=hrel;by_cases bm:k<n
  .have cw:(k:Int)<(n:Int):=(by omega);have j:(w.alloc (.cells xv.toArray 208)).cell? ⟨b,o+k,none⟩=some (.int .u8 (l.getD k 0)):=Lib.cell?_alloc_some _ (p k bm);have acd:(w.alloc (.cells xv.toArray 208)).heap[w.heap.size]? =some (.cells xv.toArray 208 (0,0)):=heap_alloc_new _ _;have mb:k<l.length:=(by omega);obtain⟨x,f,jA⟩:∃x:Nat,l.getD k 0=(x:Int)/\x<256:=by
    have:=d l[k] (List.getElem_mem mb);refine⟨(l.getD k 0).toNat,?_,?_⟩<;> simp [List.getD,mb] <;> omega
   have pz:Bytes (l.take k):=λy s=>d y (List.mem_of_mem_take s);have m:mX 4294967295 (l.take k)<4294967296:=rT (by omega) pz;have fZ:mX 4294967295 (l.take (k+1))=cbs 8 (mX 4294967295 (l.take k) ^^^ x):=by
    rw [List.take_succ_eq_append_getElem mb,xW _ _ pz];congr 2;have:l.getD k 0=l[k]:=(by simp [List.getD,mb]);rw [<-this,f];simp
   rw [f] at j;generalize D:mX 4294967295 (l.take k)=R at*;have a:R ^^^ x<4294967296:=by
    have:R ^^^ x<2 ^ 32:=Nat.xor_lt_two_pow (by omega) (by omega);omega
   have t:bits .xor .u32 (R:Int) (x:Int)=((R ^^^ x:Nat):Int):=u32_xor_nat _ _ m (by omega);have H:=P8 acd ((R ^^^ x)%16) (by omega);have u:=Xg (R ^^^ x) a;have v:=FI (R ^^^ x) a;have qC:=uH 4 a;have I:=P8 acd (cbs 4 (R ^^^ x)%16) (by omega);have z:=Xg (cbs 4 (R ^^^ x)) qC;have A:=FI (cbs 4 (R ^^^ x)) qC;have C:cbs 4 (cbs 4 (R ^^^ x))=cbs 8 (R ^^^ x):=(sY 4 4 _).symm;have q:IntKind.u32.wrap (x:Int)=(x:Int):=(by rw [IntKind.wrap_u32];omega);go_wp2;go_roundw;case rel=>exact⟨k+1,by omega,by go_num,trivial,by rw [fZ]⟩
   case measure=>simp [intOf];omega
  .have cw:¬(k:Int)<(n:Int):=(by omega);have TZ:l.take k=l:=nh (by omega);have g:(bW w (w.alloc (.cells xv.toArray 208))):=(bi _ w).alloc (bP _) _;rw [TZ] at*;go_wp2;go_ret;exact⟨rfl,g⟩
theorem Dz (a:Option Addr) (c:Nat) (w:World):
  Calls prog 176 #[.agg xv.toArray, .int .u32 4294967295, .slice a 0 c] w λe w'=>e= .returned (.int .u32 ((mX 4294967295 []:Nat):Int))/\bW w w':=by
 have b:(bW w (w.alloc (.cells xv.toArray 208))):=(bi _ w).alloc (bP _) _;rw [sZ];go_in;go_wp2;refine wp_loop_rounds 1 ?_;rw [rounds_succ];go_wp2;go_ret;exact⟨rfl,b⟩
theorem FK (a:Option Addr) (n c:Nat) (l:List Int) (w:World) (f:Bytes l) (g:n<=140737488355328) (d:Src w a n l):
  Calls prog 176 #[.agg xv.toArray, .int .u32 4294967295, .slice a n c] w λe w'=>e= .returned (.int .u32 ((mX 4294967295 l:Nat):Int))/\bW w w':=by
 by_cases h0:n=0
 .subst h0;have:l= []:=List.eq_nil_of_length_eq_zero d.1;subst this;exact Dz a c w
 .cases a with
  |none=>exact absurd (d.2.1 rfl) h0
  |some x=>
   obtain⟨b,o,rfl,k⟩:=d.spot (by omega);exact FJ b o n c l w f d.1 g k
theorem P9 (r:Nat) (a:r<4294967296):bits .xor .u32 IntKind.u32.max (r:Int)=((r ^^^ 4294967295:Nat):Int):=by
 have e:IntKind.u32.max=((4294967295:Nat):Int):=by decide
 rw [e,u32_xor_nat _ _ (by omega) a,Nat.xor_comm]
theorem xx (a:Option Addr) (n c:Nat) (l:List Int) (w:World) (b:Bytes l) (d:n<=140737488355328) (f:Src w a n l):
  Calls prog 142 #[.slice a n c] w λe w'=>e= .returned (iV ((sumOf l:Nat):Int))/\bW w w':=by
 have YL:=P9 _ (rT (r:=4294967295) (by omega) b);have Xh:mX 4294967295 l ^^^ 4294967295<4294967296:=ng b;have g:wrap64 ((mX 4294967295 l ^^^ 4294967295:Nat):Int)=((mX 4294967295 l ^^^ 4294967295:Nat):Int):=by unfold wrap64;omega
 unfold sumOf;go_in;go_wp2_with fail;refine(Jr w).mono ?_;rintro e w1 ⟨rfl,aq⟩;go_wp2_with fail;refine(FK a n c l w1 b d (f.later aq)).mono ?_;rintro e i ⟨rfl,aW⟩;go_wp2;go_ret;exact⟨rfl,aq.trans (aW.mono aq.size)⟩
structure pA (w:World) where
 to:World
 h:bW w to
theorem ai {B:Nat} {a:World} (h:Below B a w):Below B a w.drew:=⟨h.os,h.tape,h.output,h.size,h.block⟩
theorem pA.some (w:World):Nonempty (pA w):=⟨⟨w,bi _ _⟩⟩
theorem wJ {P:Program} {e:Nat} {Q:Exit->Act->World->Prop} {a:Act} {l:List Oper} (d:P.follows .mixedOrders=true) (c:Region.lexB .any l.toArray=true)
    (h:wpQuiet P l.toArray (λw'=>∃q:pA w,w'=q.to) (λb=>∀w',(∃q:pA w,w'=q.to)->Q .normal b w') l a):(Code.region e l.toArray true).wp P Q a w:=
 wp_region_quiet (C:=λw'=>∃q:pA w,w'=q.to) d c ⟨⟨w.drew,ai (bi _ _)⟩,rfl⟩ (by simpa using h)
theorem Calls.Qa {P:Program} {f:FuncId} {args:Array Value} {q:pA w}
    (h:Calls P f args q.to λe w'=>e= .returned v/\Below q.to.heap.size q.to w'):Calls P f args q.to λe Bh=>e= .returned v/\∃q':pA w,Bh=q'.to:=
 h.mono λ_ w' ⟨a,b⟩=>⟨a,⟨w',q.h.trans (b.mono q.h.size)⟩,rfl⟩
def Own (w:World) (B:Nat) (v:Value) (l:List Int):Prop:=w.ownsRow B 5 1 v l.length (bs l)
theorem Own.nil (w:World) (B:Nat):Own w B (.slice none 0 0) []:=⟨by simp, .inl ⟨rfl,rfl⟩⟩
theorem Own.src {B:Nat} (h:Own w B v l):∃a c,v= .slice a l.length c/\Src w a l.length l/\l.length<=c/\(∀x,a=some x->B<=x.block/\x.off=0):=by
 by_cases f:v= .slice none 0 0
 .subst f;have h0:l.length=0:=by
   obtain⟨_,⟨_,j⟩|⟨g,c,cur,e,_⟩⟩:=h
   .exact j
   .cases e
  obtain rfl:=List.eq_nil_of_length_eq_zero h0;exact⟨none,0,rfl,⟨rfl,λ_=>rfl,λx b=>by cases b⟩,bP _,λx b=>by cases b⟩
 .obtain⟨g,c,rfl,i,d,_⟩:=ay.eW h f;refine⟨some (aD g 0),c,rfl,d.src,?_,λx b=>by cases b;exact⟨i,rfl⟩⟩;have:=d.le;simpa [bs] using this
theorem Own.row {B:Nat} {a:Option Addr} (h:Own w B (.slice a n c) l) (h0:0<l.length):∃g,a=some (aD g 0)/\n=l.length/\B<=g/\ay w 5 g c (bs l):=by
 obtain⟨g,c',e,b,d,_⟩:=ay.eW h (by
  intro e;cases e;obtain⟨_,⟨_,f⟩|⟨g,c,cur,e,_⟩⟩:=h
  .omega
  .cases e)
 cases e;exact⟨g,rfl,rfl,b,d⟩
theorem Own.later {B:Nat} (h:Own w B v l) (i:bW w w'):Own w' B v l:=by
 by_cases d:v= .slice none 0 0
 .subst d;obtain⟨f,⟨_,o⟩|⟨g,c,cur,e,_⟩⟩:=h
  .exact⟨f, .inl ⟨rfl,o⟩⟩
  .cases e
 .obtain⟨g,c,rfl,k,a,p⟩:=ay.eW h d;have DA:=a.agree (i.block g a.lt);have m:=DA.le;obtain⟨cur,eC,j,b,n⟩:=DA;have MS:(bs l).length=l.length:=by simp [bs]
  exact⟨by simp [bs], .inr ⟨g,c,cur,rfl,k,eC,by omega,n,by simpa using j,by rw [MS] at b;simpa using b⟩⟩
theorem Own.down {B B':Nat} (h:Own w B v l) (f:B'<=B):Own w B' v l:=by
 obtain⟨a,b|⟨g,c,cur,e,i,d⟩⟩:=h
 .exact⟨a, .inl b⟩
 .exact⟨a, .inr ⟨g,c,cur,e,by omega,d⟩⟩
theorem iE (a b:List Int):bs (a ++ b)=bs a ++ bs b:=List.map_append
theorem UW (a:List Int) (x:Int):bs a ++ [.int .u8 x]=bs (a ++ [x]):=by rw [iE];rfl
theorem jW (l:List Int) (k:Nat) (h:k<l.length):l.take k ++ [l.getD k 0]=l.take (k+1):=by
 rw [List.take_succ_eq_append_getElem h];simp [List.getD,h]
theorem DB (h:l.take k=l'.take k) (a:k<l.length) (b:k<l'.length) (e:l.getD k 0=l'.getD k 0):l.take (k+1)=l'.take (k+1):=by
 rw [List.take_succ_eq_append_getElem a,List.take_succ_eq_append_getElem b,h];simp [List.getD,a,b] at e;rw [e]
theorem Js (e:l.getD k 0≠l'.getD k 0):l≠l':=λh=>e (by rw [h])
def sec (l:List Int):List Int:=(List.range 512).map (λi=>l.getD i 0)
theorem DC {B:Nat} {m:List Int} (h:w.ownsRow B 5 1 v k (bs l)) (a:m.length=k) (e:m=l):Own w B v m:=by
 subst e;subst a;exact h
abbrev kw (p:Nat) (f n:Int):Value:= .agg #[pQ p,iV f,iV n]
theorem FL (p:Nat) (f n:Int) (w:World) (a:0<=f) (A7:f<=100000) (b:0<=n) (mg:n<=100000):
  Calls prog 143 #[kw p f n] w λe w'=>e= .returned (iV (f+2+n))/\bW w w':=by
 go_in;go_wp2;go_ret;exact⟨rfl,(bi w.heap.size w).alloc (bP _) (.cells #[.pointer (some ⟨p,0,none⟩), .int .i64 f, .int .i64 n] 141)⟩
theorem LM (p:Nat) (f n x:Int) (w:World) (g:0<=f) (A7:f<=100000) (i:1<=n) (mg:n<=100000) (a:0<=x):
  Calls prog 189 #[kw p f n,iV x] w λe w'=>e= .returned (iV (f+2+x%n))/\bW w w':=by
 have b:0<=x%n:=Int.emod_nonneg _ (by omega);have c:x%n<n:=Int.emod_lt_of_pos _ (by omega);have d:x.tmod n=x%n:=Int.tmod_eq_emod_of_nonneg a;generalize x%n=y at*;go_in;go_wp2
 go_region
 go_wp2;go_ret;exact⟨rfl,ai ((bi w.heap.size w).alloc (bP _) (.cells #[.pointer (some ⟨p,0,none⟩), .int .i64 f, .int .i64 n] 141))⟩
def cq (S:DS) (s:Nat) (f n:Int):Int:=
 if S.fuse=0 then 3 else if f<0\/(s:Int)<=f then 11 else if n<18\/256<n then 1 else if (s:Int)<f+2+n then 11 else 0
theorem aP.boxed (h:aP w F p s S) (o:Obj):aP (w.alloc o) F p s S:=
 h.au (aa.ah (λ_=>False) ((bi w.heap.size w).alloc (bP _) o)) (λ_ _ h=>h)
theorem FM (h:aP w F p s S) (f n:Int) (v:s<=2048):
  Calls prog 97 #[kw p f n] w λe w'=>e= .returned (iV (cq S s f n))/\bW w w':=by
 have c:=(bi w.heap.size w).alloc (bP _) (.cells #[.pointer (some ⟨p,0,none⟩), .int .i64 f, .int .i64 n] 141);have d:=x9 (h.boxed (.cells #[.pointer (some ⟨p,0,none⟩), .int .i64 f, .int .i64 n] 141));have b:=ii (h.boxed (.cells #[.pointer (some ⟨p,0,none⟩), .int .i64 f, .int .i64 n] 141));have i:=FL p f n (w.alloc (.cells #[.pointer (some ⟨p,0,none⟩), .int .i64 f, .int .i64 n] 141));unfold cq;go_in;by_cases g:S.fuse=0
 .rw [show (S.fuse == 0)=true by simp [g]] at b;rw [aE g];go_wp2_with (first|(go_at_call 36;refine d.mono ?_;rintro e w' ⟨rfl,a⟩;subst a)|(go_at_call 34;refine b.mono ?_;rintro e w' ⟨rfl,a⟩;subst a));go_ret;exact⟨rfl,c⟩
 .rw [show (S.fuse == 0)=false by simp [g]] at b;rw [aA g];by_cases j:f<0\/(s:Int)<=f
  .rw [aE j];by_cases o:f<0
   .clear j;go_wp2_with (first|(go_at_call 36;refine d.mono ?_;rintro e w' ⟨rfl,a⟩;subst a)|(go_at_call 34;refine b.mono ?_;rintro e w' ⟨rfl,a⟩;subst a));go_ret;exact⟨rfl,c⟩
   .have q:(s:Int)<=f:=(by omega);go_wp2_with (first|(go_at_call 36;refine d.mono ?_;rintro e w' ⟨rfl,a⟩;subst a)|(go_at_call 34;refine b.mono ?_;rintro e w' ⟨rfl,a⟩;subst a));go_ret;exact⟨rfl,c⟩
  .rw [aA j];have o:¬f<0:=(by omega);have q:¬(s:Int)<=f:=(by omega);by_cases k:n<18\/256<n
   .rw [aE k];by_cases r:n<18
    .clear k;go_wp2_with (first|(go_at_call 36;refine d.mono ?_;rintro e w' ⟨rfl,a⟩;subst a)|(go_at_call 34;refine b.mono ?_;rintro e w' ⟨rfl,a⟩;subst a));go_ret;exact⟨rfl,c⟩
    .have t:256<n:=(by omega);go_wp2_with (first|(go_at_call 36;refine d.mono ?_;rintro e w' ⟨rfl,a⟩;subst a)|(go_at_call 34;refine b.mono ?_;rintro e w' ⟨rfl,a⟩;subst a));go_ret;exact⟨rfl,c⟩
   .rw [aA k];have r:¬n<18:=(by omega);have t:¬256<n:=(by omega);have i:=i (by omega) (by omega) (by omega) (by omega);by_cases m:(s:Int)<f+2+n
    .rw [aE m];go_wp2_with (first|(go_at_call 36;refine d.mono ?_;rintro e w' ⟨rfl,a⟩;subst a)|(go_at_call 34;refine b.mono ?_;rintro e w' ⟨rfl,a⟩;subst a));refine bE i λu l=>?_;go_wp2;go_ret;exact⟨rfl,c.trans (l.mono c.size)⟩
    .rw [aA m];go_wp2_with (first|(go_at_call 36;refine d.mono ?_;rintro e w' ⟨rfl,a⟩;subst a)|(go_at_call 34;refine b.mono ?_;rintro e w' ⟨rfl,a⟩;subst a));refine bE i λu l=>?_;go_wp2;go_ret;exact⟨rfl,c.trans (l.mono c.size)⟩
theorem pB (a b:Nat) (e:a<4294967296) (f:b<4294967296):bits .xor .i64 (a:Int) (b:Int)=((a ^^^ b:Nat):Int):=by
 have g:a ^^^ b<2 ^ 32:=Nat.xor_lt_two_pow (by omega) (by omega);have c:(BitVec.ofInt 64 (a:Int)).toNat=a:=by rw [BitVec.ofInt_natCast,BitVec.toNat_ofNat];exact Nat.mod_eq_of_lt (by omega)
 have d:(BitVec.ofInt 64 (b:Int)).toNat=b:=by rw [BitVec.ofInt_natCast,BitVec.toNat_ofNat];exact Nat.mod_eq_of_lt (by omega)
 show IntKind.i64.wrap ((BitVec.ofInt 64 (a:Int) ^^^ BitVec.ofInt 64 (b:Int)).toNat:Int)=_;rw [BitVec.toNat_xor,c,d,IntKind.wrap_i64];omega
theorem Qb (a:Nat) (d:a<4294967296):bits .and .i64 (a:Int) 1=((a%2:Nat):Int):=by
 have b:(BitVec.ofInt 64 (a:Int)).toNat=a:=by rw [BitVec.ofInt_natCast,BitVec.toNat_ofNat];exact Nat.mod_eq_of_lt (by omega)
 have c:(BitVec.ofInt 64 (1:Int)).toNat=1:=by decide
 show IntKind.i64.wrap ((BitVec.ofInt 64 (a:Int) &&& BitVec.ofInt 64 (1:Int)).toNat:Int)=_;rw [BitVec.toNat_and,b,c,IntKind.wrap_i64,Nat.and_one_is_mod];omega
theorem Qc (b o n c:Nat) (l:List Int) (w:World) (j:Bytes l) (F:l.length=n) (H:n<=140737488355328) (q:∀i,i<n->w.cell? ⟨b,o+i,none⟩=some (.int .u8 (l.getD i 0))):
  Calls prog 235 #[.slice (some (aD b o)) n c] w λe w'=>e= .returned (iV ((sumOf l:Nat):Int))/\bW w w':=by
 have t:=yh q;clear q;unfold sumOf;go_in;go_wp2;go_loopw [3,4] (λr i wr=>∃k:Nat,k<=n/\i=iV k/\wr=w/\r=iV ((mX 4294967295 (l.take k):Nat):Int)) (λ_ i _=>n-(intOf i).toNat);case atStart=>exact⟨0,dU _,rfl,rfl,by simp [sZ]⟩
 case round=>
  obtain⟨k,E,rfl,rfl,rfl⟩:=hrel;by_cases bm:k<n
  .have cw:(k:Int)<(n:Int):=(by omega);have z:=t.o k bm;have mb:k<l.length:=(by omega);obtain⟨x,p,jA⟩:∃x:Nat,l.getD k 0=(x:Int)/\x<256:=by
    have:=j l[k] (List.getElem_mem mb);refine⟨(l.getD k 0).toNat,?_,?_⟩<;> simp [List.getD,mb] <;> omega
   have pz:Bytes (l.take k):=λy C=>j y (List.mem_of_mem_take C);have d:mX 4294967295 (l.take k)<4294967296:=rT (by omega) pz;have fZ:mX 4294967295 (l.take (k+1))=cbs 8 (mX 4294967295 (l.take k) ^^^ x):=by
    rw [List.take_succ_eq_append_getElem mb,xW _ _ pz];congr 2;have:l.getD k 0=l[k]:=(by simp [List.getD,mb]);rw [<-this,p];simp
   have g:=yh fZ;rw [p] at z;generalize v:mX 4294967295 (l.take k)=R at*;have A:R ^^^ x<4294967296:=by
    have:R ^^^ x<2 ^ 32:=Nat.xor_lt_two_pow (by omega) (by omega);omega
   have u:bits .xor .i64 (R:Int) (x:Int)=((R ^^^ x:Nat):Int):=pB _ _ d (by omega);clear fZ v pz d p;go_wp2;go_loopw [3,5] (λr i wx=>∃m:Nat,m<=8/\i=iV m/\wx=wr/\r=iV ((cbs m (R ^^^ x):Nat):Int)) (λ_ i _=>8-(intOf i).toNat);case atStart=>exact⟨0,dU _,rfl,rfl,rfl⟩
   case round=>
    obtain⟨m,G,rfl,rfl,rfl⟩:=hrel;have d:=uH m A;by_cases xw:m<8
    .have Bm:(m:Int)<8:=(by omega);have bz:cb (cbs m (R ^^^ x))=cbs (m+1) (R ^^^ x):=(by rw [sY];rfl);generalize cbs m (R ^^^ x)=S at*;have f:=yh bz;clear bz;have I:=Qb S d;rcases Nat.mod_two_eq_zero_or_one S with a|a
     .have D:(((S%2:Nat):Int) == 1)=false:=(by rw [a];rfl);have YM:Yh (cb S=S / 2):=(by show cb S=S / 2;simp [cb,a]);clear a;go_wp2;go_roundw;case rel=>exact⟨m+1,by omega,by go_num,trivial,by rw [<-f.o,YM.o];first|(rw [Int.natCast_ediv];rfl)|rw [s.out]⟩
      case measure=>simp [intOf];omega
     .have D:(((S%2:Nat):Int) == 1)=true:=(by rw [a];rfl);have s:Yh (bits .xor .i64 ((S:Int) / 2) 2197175160=((S / 2 ^^^ 2197175160:Nat):Int)):=pB (S / 2) 2197175160 (by omega) (by omega);have YM:Yh (cb S=S / 2 ^^^ 2197175160):=(by show cb S=S / 2 ^^^ 2197175160;simp [cb,a]);clear a;go_wp2;go_roundw;case rel=>exact⟨m+1,by omega,by go_num,trivial,by rw [<-f.o,YM.o];first|(rw [Int.natCast_ediv];rfl)|rw [s.out]⟩
      case measure=>simp [intOf];omega
    .have Bm:¬(m:Int)<8:=(by omega);have Xi:m=8:=(by omega);subst Xi;go_wp2;go_roundw;case rel=>exact⟨k+1,by omega,by go_num,trivial,by rw [g.o]⟩
     case measure=>simp [intOf];omega
  .have cw:¬(k:Int)<(n:Int):=(by omega);have TZ:l.take k=l:=nh (by omega);have d:mX 4294967295 l<4294967296:=rT (by omega) j;have u:bits .xor .i64 ((mX 4294967295 l:Nat):Int) 4294967295=((mX 4294967295 l ^^^ 4294967295:Nat):Int):=pB (mX 4294967295 l) 4294967295 d (by omega);rw [TZ] at*;go_wp2;go_ret;exact⟨rfl,(yh (bi wr.heap.size wr)).out⟩
theorem MT (a:Option Addr) (c:Nat) (w:World):
  Calls prog 235 #[.slice a 0 c] w λe w'=>e= .returned (iV ((sumOf []:Nat):Int))/\bW w w':=by
 have d:bits .xor .i64 4294967295 4294967295=0:=by decide
 have b:sumOf []=0:=by decide
 rw [b];go_in;go_wp2;refine wp_loop_rounds 1 ?_;rw [rounds_succ];go_wp2;go_ret;exact⟨rfl,bi w.heap.size w⟩
theorem Qd (a:Option Addr) (n c:Nat) (l:List Int) (w:World) (f:Bytes l) (g:n<=140737488355328) (d:Src w a n l):
  Calls prog 235 #[.slice a n c] w λe w'=>e= .returned (iV ((sumOf l:Nat):Int))/\bW w w':=by
 by_cases h0:n=0
 .subst h0;have:l= []:=List.eq_nil_of_length_eq_zero d.1;subst this;exact MT a c w
 .cases a with
  |none=>exact absurd (d.2.1 rfl) h0
  |some x=>
   obtain⟨b,o,rfl,k⟩:=d.spot (by omega);exact Qc b o n c l w f d.1 g k
theorem acf (n:Nat) (a b:Int) (w:World):(Op.equalIn (n+1) 5 (.int .u8 a) (.int .u8 b)).run prog w= .ok (a == b) w:=by
 simp [Op.equalIn,go_sem]
theorem LN (xs:Array Value) (a:Nat) (v:Value) (w:World) (h:xs[a]? =some v):(part 5 xs a).run prog w= .ok v w:=run_part_plain (P:=prog) w (by kernel_rfl) h
theorem MU (n:Nat) (w:World) (xs c:Array Value) (j:Nat) (a b:Int) (d:List Nat) (e:xs[j]? =some (.int .u8 a)) (f:c[j]? =some (.int .u8 b)):
    (Op.eqItems (n+1) 5 1 xs c (j :: d)).run prog w=if a=b then (Op.eqItems (n+1) 5 1 xs c d).run prog w else .ok false w:=by
 simp only [Op.eqItems,Nat.mul_one,Sem.run_bind,LN xs j _ w e,LN c j _ w f,Result.andThen_ok,acf];by_cases h:a=b
 .simp [h]
 .simp [h]
theorem yE (n:Nat) (l m:List Int) (w:World):∀js:List Nat,(∀j∈js,j<l.length/\j<m.length)->
    (Op.eqItems (n+1) 5 1 (bs l).toArray (bs m).toArray js).run prog w= .ok (decide (∀j∈js,l.getD j 0=m.getD j 0)) w
 | [],_=>by simp [Op.eqItems]
 |j :: js,h=>by
  obtain⟨f,g⟩:=h j (by simp);have d:(bs l).toArray[j]? =some (.int .u8 (l.getD j 0)):=by simp [bs,List.getD,f]
  have e:(bs m).toArray[j]? =some (.int .u8 (m.getD j 0)):=by simp [bs,List.getD,g]
  rw [MU n w _ _ j _ _ js d e];by_cases c:l.getD j 0=m.getD j 0
  .rw [aE c,(yE n l m w js (λi a=>h i (by simp [a])))];refine congrArg (λb=>Result.ok b w) ?_;rw [decide_eq_decide];exact⟨λk i a=>by rcases List.mem_cons.1 a with rfl|a;exact c;exact k i a,λk i a=>k i (by simp [a])⟩
  .rw [aA c];refine congrArg (λb=>Result.ok b w) ?_;symm;rw [decide_eq_false_iff_not];exact λk=>c (k j (by simp))
theorem Qe {m:List Int} (b:l.length=m.length) (h:∀i,i<l.length->l.getD i 0=m.getD i 0):l=m:=by
 apply List.ext_getElem?;intro i;by_cases a:i<l.length
 .have:=h i a;simp only [List.getD,List.getElem?_eq_getElem a,List.getElem?_eq_getElem (show i<m.length by omega),Option.getD_some] at this;rw [List.getElem?_eq_getElem a,List.getElem?_eq_getElem (show i<m.length by omega),this]
 .rw [List.getElem?_eq_none (by omega),List.getElem?_eq_none (by omega)]
theorem Jt (N n:Nat) (T:TypeId) (l m:List Int) (e:l.length=N) (f:m.length=N) (w:World) (d:prog.underlying T=some (.array N 5)):
    (Op.equalIn (n+2) T (.agg (bs l).toArray) (.agg (bs m).toArray)).run prog w= .ok (decide (l=m)) w:=by
 obtain⟨g,a⟩:=info_of_underlying (P:=prog) underlying5;rw [run_equalIn_array (P:=prog) w (n+1) _ _ d a];have WU:prog.cellsOf 5=1:=by kernel_rfl
 rw [WU,yE n l m w _ (λj c=>by rw [List.mem_range] at c;omega)];refine congrArg (λb=>Result.ok b w) ?_;rw [decide_eq_decide];constructor
 .intro h;exact Qe (by omega) (λi a=>h i (List.mem_range.2 (by omega)))
 .rintro rfl _ _;rfl
theorem YN (n:Nat) (l m:List Int) (a:l.length=512) (b:m.length=512) (w:World):
    (Op.equalIn (n+2) 210 (.agg (bs l).toArray) (.agg (bs m).toArray)).run prog w= .ok (decide (l=m)) w:=
 Jt 512 n 210 l m a b w underlying210
theorem Qf:prog.eqGuardType prog.depth 210=false:=by kernel_rfl
theorem Qg (l m:List Int) (a:l.length=512) (b:m.length=512) (w:World) (x y:Operand):
    (do eqGuard .eql 210 x y (.agg (bs l).toArray) (.agg (bs m).toArray);binOp .eql 210 (.agg (bs l).toArray) (.agg (bs m).toArray)).run prog w= .ok (.bool (decide (l=m))) w:=by
 rw [Sem.run_bind,run_eqGuard_agg (P:=prog) w .eql 210 x y _ _ Qf,Result.andThen_ok];show (binOp .eql 210 (.agg (bs l).toArray) (.agg (bs m).toArray)).run prog w=_;unfold binOp Op.equal Op.maxDepth;rw [Sem.run_bind,YN 9998 l m a b w,Result.andThen_ok,Sem.run_pure]
theorem mi (g o i j:Nat) (w:World) (a:i<j) (f:j<=512):
  Calls prog 218 #[.pointer (some (aD g o)),iV (i:Int),iV (j:Int)] w λe w'=>e= .returned (.slice (some ⟨g,o+i,none⟩) (j-i) (j-i))/\w'=w:=by
 have b:(i:Int)<=(j:Int):=by omega
 have c:(j:Int)<=512:=by omega
 have d:¬j=i:=by omega
 go_in;go_wp2;go_ret;exact⟨rfl,rfl⟩
theorem Qh (g o i:Nat) (w:World) (b:i<=512):
  Calls prog 218 #[.pointer (some (aD g o)),iV (i:Int),iV (i:Int)] w λe w'=>e= .returned (.slice (some (aD g o)) 0 0)/\w'=w:=by
 have a:(i:Int)<=512:=by omega
 go_in;go_wp2;go_ret;exact⟨rfl,rfl⟩
def leb:Nat->Nat->List Int
 |0,_=> []
 |k+1,m=>((m%256:Nat):Int) :: leb k (m / 256)
theorem aH:∀k m,(leb k m).length=k
 |0,_=>rfl
 |k+1,m=>by simp [leb,aH k]
theorem iX:∀k m,leb (k+1) m=leb k m ++ [((m / 2 ^ (8*k)%256:Nat):Int)]
 |0,m=>by simp [leb]
 |k+1,m=>by
  rw [leb,iX k (m / 256),leb];have:m / 256 / 2 ^ (8*k)=m / 2 ^ (8*(k+1)):=by
   rw [Nat.div_div_eq_div_mul,show 8*(k+1)=8+8*k by omega,Nat.pow_add]
  simp [this]
theorem iF:∀k m,Bytes (leb k m)
 |0,_=>by intro x a;cases a
 |k+1,m=> .cons (by omega) (iF k _)
def put (l:List Int) (o:Nat) (xs:List Int):List Int:=l.take o ++ (xs ++ l.drop (o+xs.length))
theorem LP {o:Nat} (h:o+xs.length<=l.length):(put l o xs).length=l.length:=by simp [put];omega
theorem DD (l:List Int) (o:Nat):put l o []=l:=by simp [put]
theorem FN {o:Nat} (h:o+xs.length<l.length) (x:Int):(put l o xs).set (o+xs.length) x=put l o (xs ++ [x]):=by
 unfold put;have a:(l.take o).length=o:=by simp;omega
 rw [List.set_append_right _ _ (by omega),a,List.set_append_right _ _ (by omega),show o+xs.length-o-xs.length=0 by omega];have:l.drop (o+xs.length)=l[o+xs.length] :: l.drop (o+xs.length+1):=List.drop_eq_getElem_cons h;rw [this,List.set_cons_zero];simp [Nat.add_assoc]
def jX (w:World) (T:TypeId) (g:Nat) (l:List Int):Prop:=w.heap[g]? =some (.cells (bs l).toArray T (0,0))
theorem jX.lt (h:jX w T g l):g<w.heap.size:=(kN.1 h).1
theorem jX.cell (h:jX w T g l) {i:Nat} (a:i<l.length):w.cell? (aD g i)=some (.int .u8 (l.getD i 0)):=
 aj h (by simp [bs,List.getD,a])
theorem jX.frozen (h:jX w T g l) (i:Nat):w.frozen? (aD g i)=false:=ae h i
theorem jX.set (h:jX w T g l) (i:Nat) (x:Int):jX (w.setCell ⟨g,i,none⟩ (.int .u8 x)) T g (l.set i x):=by
 unfold jX;rw [heap_setCell_same _ _ _ _ _ _ h];congr 2;apply Array.ext';simp [bs,List.map_set]
theorem jX.au (h:jX w T g l) (a:w'.heap[g]? =w.heap[g]?):jX w' T g l:=a.trans h
theorem jX.src (h:jX w T g l) {o:Nat} (c:o+n<=l.length):Src w (some (aD g o)) n ((l.drop o).take n):=
   ⟨by simp;omega,(λe=>by cases e),λx b i a=>by
  cases b;rw [aK,h.cell (by omega)];simp [List.getD,a]⟩
theorem DE (g o k c N:Nat) (T:TypeId) (l:List Int) (w:World) (d:jX w T g l) (q:k<=8) (r:o+k<=l.length):
  Calls prog 217 #[.slice (some (aD g o)) k c, .int .u64 (N:Int)] w λe w'=>e= .returned (.tuple #[])/\jX w' T g (put l o (leb k N))/\aa (λj=>j=g) w w'/\w'.heap.size=w.heap.size:=by
 go_in;go_wp2;go_loopw [7] (λi wr=>∃j:Nat,j<=k/\i=iV j/\jX wr T g (put l o (leb j N))/\aa (λj=>j=g) w wr/\wr.heap.size=w.heap.size) (λi _=>k-(intOf i).toNat);case atStart=>exact⟨0,dU _,rfl,by rw [leb,DD];exact d,aa.refl _ _,rfl⟩
 case round=>
  obtain⟨j,n,rfl,aZ,ru,ef⟩:=hrel;by_cases bm:j<k
  .have cw:(j:Int)<(k:Int):=(by omega);have a:=aH j N;have pf:=LP (l:=l) (xs:=leb j N) (o:=o) (by omega);have f:=aZ.cell (i:=o+j) (by omega);have m:=aZ.frozen (o+j);have oT:=aZ.set (o+j) ((N / 2 ^ (8*j)%256:Nat):Int);have e:=FN (l:=l) (xs:=leb j N) (o:=o) (by omega) ((N / 2 ^ (8*j)%256:Nat):Int);rw [a] at e;rw [e,<-iX] at oT;have b:=(ru.trans (aa.setCell (F:=λj=>j=g) (p:=⟨g,o+j,none⟩) wr rfl (.int .u8 ((N / 2 ^ (8*j)%256:Nat):Int))) (λ_ h=> .inl h));go_wp2;go_roundw;case rel=>exact⟨j+1,by omega,by go_num,oT,b,by simpa [World.setCell] using ef⟩
   case measure=>simp [intOf];omega
  .have cw:¬(j:Int)<(k:Int):=(by omega);obtain rfl:j=k:=(by omega);go_wp2
   go_end0
   exact⟨rfl,aZ,ru,ef⟩
theorem YO (i A X:Nat) (c:A<2 ^ i) (h:A+2 ^ i*X<18446744073709551616):
  bits .or .u64 (A:Int) ((2 ^ i*X:Nat):Int)=((A+2 ^ i*X:Nat):Int):=by
 have q:∀z:Nat,z<18446744073709551616->(BitVec.ofInt 64 (z:Int)).toNat=z:=by
  intro z d;rw [BitVec.toNat_ofInt];omega
 have a:A<18446744073709551616:=by omega
 have b:2 ^ i*X<18446744073709551616:=by omega
 show IntKind.u64.wrap ((BitVec.ofInt 64 (A:Int) |||BitVec.ofInt 64 ((2 ^ i*X:Nat):Int)).toNat:Int)=_;rw [BitVec.toNat_or,q A a,q _ b,Nat.or_comm,<-Nat.two_pow_add_eq_or_of_lt c X,Nat.add_comm];generalize A+2 ^ i*X=Z at*;simp only [IntKind.wrap,IntKind.bits,IntKind.signed];simp;omega
theorem UX (x:Int) (k:Nat) (a:k<8):(x*2 ^ min ((8*(k:Int)).toNat) 64)=x*2 ^ (8*k):=by
 congr 2;omega
theorem lq (a:k<l.length):le (l.take (k+1))=le (l.take k)+2 ^ (8*k)*(l.getD k 0).toNat:=by
 rw [List.take_succ_eq_append_getElem a,uI];have:(l.take k).length=k:=by simp;omega
 rw [this];simp [le,List.getD,a]
theorem FO (a:Bytes l) (h:l.length<=8):le l<18446744073709551616:=by
 have:=lg a;exact iP this (by have:=Nat.pow_le_pow_right (show 0<2 by omega) (show 8*l.length<=64 by omega);simpa using this)
theorem uR (b o n c:Nat) (l:List Int) (w:World) (d:Bytes l) (u:l.length=n) (v:n<=8) (g:∀i,i<n->w.cell? ⟨b,o+i,none⟩=some (.int .u8 (l.getD i 0))):
  Calls prog 237 #[.slice (some (aD b o)) n c] w λe w'=>e= .returned (.int .u64 ((le l:Nat):Int))/\w'=w:=by
 have m:=yh g;clear g;go_in;go_wp2;go_loopw [3,8] (λr i wr=>∃j:Nat,j<=n/\i=iV j/\wr=w/\r= .int .u64 ((le (l.take j):Nat):Int)) (λ_ i _=>n-(intOf i).toNat);case atStart=>exact⟨0,dU _,rfl,rfl,by simp [le]⟩
 case round=>
  obtain⟨j,t,rfl,rfl,rfl⟩:=hrel;by_cases bm:j<n
  .have cw:(j:Int)<(n:Int):=(by omega);have q:=m.o j bm;obtain⟨x,s,jA⟩:∃x:Nat,l.getD j 0=(x:Int)/\x<256:=by
    have:=d.getD j;exact⟨(l.getD j 0).toNat,by omega,by omega⟩
   have io:=lq (l:=l) (k:=j) (by omega);have f:le (l.take j)<2 ^ (8*j):=by
    have:=lg (d.take j);have e:(l.take j).length=j:=(by simp;omega);rwa [e] at this
   have a:le (l.take (j+1))<18446744073709551616:=FO (d.take _) (by simp;omega);rw [s] at q io;simp only [Int.toNat_natCast] at io;rw [io] at a;have MV:=YO (8*j) _ x f a;rw [<-io] at MV;have YP:((x:Int)*2 ^ (8*j))=((2 ^ (8*j)*x:Nat):Int):=(by rw [Int.natCast_mul,Int.natCast_pow,Int.mul_comm];rfl);have oS:((2 ^ (8*j)*x:Nat):Int)%18446744073709551616=((2 ^ (8*j)*x:Nat):Int):=(by omega);generalize 2 ^ (8*j)*x=Y at*;generalize le (l.take j)=A at*;clear f a io;go_wp2;go_roundw;case rel=>exact⟨j+1,by omega,by go_num,trivial,by rw [<-(yh MV).out]⟩
   case measure=>simp [intOf];omega
  .have cw:¬(j:Int)<(n:Int):=(by omega);have p:l.take j=l:=nh (by omega);rw [p] at*;go_wp2;go_ret;exact⟨rfl,rfl⟩
theorem oe (g o:Nat) (a b:Int) (w:World) (n:w.cell? (aD g o)=some (.int .u8 a)) (p:w.cell? ⟨g,o+511,none⟩=some (.int .u8 b)):
  Calls prog 182 #[.pointer (some (aD g o))] w λe w'=>e= .returned (.int .u8 ((cD a b:Nat):Int))/\w'=w:=by
 have l:=gd a b;have acg:∀k:Nat,k<cD a b->(k:Int)=a\/(k:Int)=b:=by
  intro k d;unfold cD at d;split at d
  .omega
  .split at d
   .next c f=>omega
   .next c f=>omega
 have dG:=B9 a b;generalize cD a b=t at*;go_in;go_wp2;go_loopw [3] (λi wr=>∃k:Nat,k<=t/\i= .int .u8 k/\wr=w) (λi _=>t-(intOf i).toNat);case atStart=>exact⟨0,dU _,rfl,rfl⟩
 case round=>
  obtain⟨k,d,rfl,rfl⟩:=hrel;by_cases bm:k<t
  .by_cases c:(k:Int)=a
   .have j:((k:Int) == a)=true:=(by simpa using c);go_wp2;go_roundw;case rel=>exact⟨k+1,by omega,by go_num,trivial⟩
    case measure=>simp [intOf];omega
   .have f:=(acg k bm).resolve_left c;have j:((k:Int) == a)=false:=(by simpa using c);have m:((k:Int) == b)=true:=(by simpa using f);go_wp2;go_roundw;case rel=>exact⟨k+1,by omega,by go_num,trivial⟩
    case measure=>simp [intOf];omega
  .obtain rfl:k=t:=(by omega);have j:((k:Int) == a)=false:=(by simpa using dG.1);have m:((k:Int) == b)=false:=(by simpa using dG.2);go_wp2;go_ret;exact⟨rfl,rfl⟩
theorem Qi (g:Nat) (T:TypeId) (l:List Int) (w:World) (d:jX w T g l) (z:l.length=512) (cZ:Bytes l):
  Calls prog 219 #[pQ g] w λe w'=>e= .returned (iV ((sumOf (xu l):Nat):Int))/\bW w w':=by
 obtain⟨y,v,gv,dr,ec⟩:=info_parts fW;have s1:=d.src (o:=1) (n:=2) (by omega);have s2:=d.src (o:=7) (n:=504) (by omega);have r:Bytes ((l.drop 1).take 2):=(cZ.drop _).take _;have s:Bytes ((l.drop 7).take 504):=(cZ.drop _).take _;unfold xu;generalize (l.drop 1).take 2=X at*;generalize (l.drop 7).take 504=Y at*;go_in;go_wp2_with fail;refine(mi g 0 1 3 w (by omega) (by omega)).mono ?_;rintro e w1 ⟨rfl,i⟩;have ez:=i.symm;subst ez;go_wp2_with fail;refine(mi g 0 7 511 w (by omega) (by omega)).mono ?_;rintro e w1 ⟨rfl,i⟩;have ez:=i.symm;subst ez;go_wp2_with (at_builtin;refine wpList_append_grows _ rfl _ _ 22 rfl 5 y (.int .u8 0) 1 1 underlying22 v gv dr ec rfl (by decide) (some (aD g 1)) 2 2 (bs X) rfl ?m0 ?m1 ?m2 (aD g 7) 504 504 (bs Y) rfl ?m3 ?m4 ?m5 ?m6 ?m7 ?m8 ?_);case m0=>intro h;cases h
 case m1=>have:=s1.1;simpa [bs] using this
 case m2=>
  intro b d j u f;cases d;obtain⟨YQ,rfl⟩:=fq f;have:=s1.1;exact s1.2.2 _ rfl j (by omega)
 case m3=>have:=s2.1;simpa [bs] using this
 case m4=>
  intro j u f;obtain⟨YQ,rfl⟩:=fq f;have:=s2.1;exact s2.2.2 _ rfl j (by omega)
 case m5=>exact cB _
 case m6=>omega
 case m7=>unfold maxLen;omega
 case m8=>omega
 intro A w1 az aO;have t:=DC (l:=X ++ Y) (by rw [iE];exact az) (by have:=s1.1;have:=s2.1;simp;omega) rfl;obtain⟨a,c,rfl,fJ,_,_⟩:=t.src;have q:=xx a (X ++ Y).length c (X ++ Y) w1 (r.append s) (by have:=s1.1;have:=s2.1;simp;omega) fJ;have m:=(bi _ w).grown aO (bP _) (by intro k x;cases x);generalize (X ++ Y).length=N at*;obtain⟨E,p⟩:=bQ (sumOf (X ++ Y));rw [<-p] at q;go_wp2_with fail;refine bE q λC aW=>?_;go_wp2;go_ret;exact⟨by rw [<-p];rfl,m.trans (aW.mono m.size)⟩
def zs (n:Nat):List Int:=List.replicate n 0
theorem bB (n:Nat):(zs n).length=n:=List.length_replicate
theorem og (n:Nat):zs (n+1)=0 :: zs n:=List.replicate_succ
theorem lM (n m:Nat):zs (n+m)=zs n ++ zs m:=by unfold zs;rw [List.replicate_append_replicate]
def bh:Array Value:=(bs (zs 512)).toArray
theorem LQ:(prog.info? 210).map (λi=>(i.zero,i.size))=some (some (.agg bh),512):=by kernel_rfl
theorem jc (w:World):(zeroValue 210).run prog w= .ok (.agg bh) w:=by
 obtain⟨i,b,a⟩:=Option.map_eq_some_iff.1 LQ;simp only [Prod.mk.injEq] at a;simp [zeroValue,typeInfo,b,a.1]
theorem DF:(prog.info? 210).map (·.size)=some 512:=by
 obtain⟨i,b,a⟩:=Option.map_eq_some_iff.1 LQ;simp only [Prod.mk.injEq] at a;rw [b,<-a.2];rfl
theorem ahH (n:Nat) (h:n<65536):leb 2 n= [((n%256:Nat):Int),((n / 256:Nat):Int)]:=by
 simp only [leb];congr 3;omega
theorem ach (s:Nat):leb 4 s=nV s:=by
 simp only [leb,nV,Nat.div_div_eq_div_mul]
theorem Qj (l:List Int) (x y:Int):(l ++ [x]).set l.length y=l ++ [y]:=by
 rw [List.set_append_right _ _ (bP _),Nat.sub_self];rfl
def s1 (t:Int):List Int:=t :: (zs 510 ++ [t])
theorem YR (t:Int):(s1 t).length=512:=by simp only [s1,List.length_cons,dT,bB,List.length_nil]
def s2 (t:Int) (n:Nat):List Int:=t :: ((n%256:Nat):Int) :: ((n / 256:Nat):Int) :: (zs 508 ++ [t])
theorem YS (t:Int) (n:Nat):(s2 t n).length=512:=by simp only [s2,List.length_cons,dT,bB,List.length_nil]
theorem aci (t:Int) (n:Nat) (h:n<65536):put (s1 t) 1 (leb 2 n)=s2 t n:=by
 rw [ahH n h];unfold s1 s2;rw [og 509,og 508];simp only [put,List.take_succ_cons,List.take_zero,List.length_cons,List.length_nil,List.cons_append,List.nil_append,List.drop_succ_cons,List.drop_zero]
def s3 (t:Int) (body:List Int):List Int:=t :: ((body.length%256:Nat):Int) :: ((body.length / 256:Nat):Int) :: 0 :: 0 :: 0 :: 0 :: (body ++ (List.replicate (504-body.length) 0 ++ [t]))
theorem Qk (t:Int) (h:body.length<=504):(s3 t body).length=512:=by simp [s3];omega
theorem acj (t:Int) (body:List Int) (h:body.length<=504):put (s2 t body.length) 7 body=s3 t body:=by
 unfold s2 s3;have e:(zs 508 ++ [t])=0 :: 0 :: 0 :: 0 :: (zs body.length ++ (zs (504-body.length) ++ [t])):=by
  rw [<-List.append_assoc,<-lM,show body.length+(504-body.length)=504 by omega,og 507,og 506,og 505,og 504];rfl
 rw [e];simp only [put,List.take_succ_cons,List.take_zero,List.cons_append,List.nil_append];rw [show 7+body.length=body.length+7 by omega];simp only [List.drop_succ_cons];rw [List.drop_left' (bB _)];rfl
theorem Ql {t:Int} (a:0<=t/\t<256) (b:Bytes body) (h:body.length<=504):Bytes (s3 t body):=
   .cons a (.cons (by omega) (.cons (by omega) (.cons (by omega) (.cons (by omega) (.cons (by omega) (.cons (by omega) (b.append ((Bytes.tu _).append (.cons a .nil)))))))))
theorem UY (t:Int) (body:List Int) (h:body.length<=504):xu (s3 t body)=nx body:=by
 unfold xu s3 nx;simp only [List.drop_succ_cons,List.drop_zero,List.take_succ_cons,List.take_zero,List.cons_append,List.nil_append];rw [<-List.append_assoc,List.take_left' (by simp;omega)]
theorem ack (t:Int) (body:List Int):put (s3 t body) 3 (leb 4 (sumOf (nx body)))=be t body:=by
 rw [ach];unfold s3 be;simp only [put,List.take_succ_cons,List.take_zero,nZ,List.cons_append,List.nil_append,List.drop_succ_cons,List.drop_zero]
theorem YT (l xs:List Int) (o:Nat):splice (bs l) o (bs xs)=bs (put l o xs):=by
 simp [splice,bs,put,List.map_take,List.map_drop]
theorem Qm (w:World) (m T:TypeId) (g b gN Be:Nat) (a:Option Addr) (jR Bf:Nat) (cur l:List Int) (d:jX w T g cur)
    (i:Src w a jR l) (f:jR<=gN) (Fo:b+gN<=cur.length):
  ∃w2,(Builtin.copy_ #[22,22] m #[.slice (some (aD g b)) gN Be, .slice a jR Bf]).run prog w= .ok (goInt jR) w2/\
   jX w2 T g (put cur b l)/\aa (λk=>k=g) w w2/\w2.heap.size=w.heap.size:=by
 have p:=i.1;by_cases h0:jR=0
 .refine⟨w,?_,?_,aa.refl _ _,rfl⟩
  .have:=run_copy_none (P:=prog) w 22 22 m 5 (some (aD g b)) a gN Be jR Bf underlying22 Df (by rw [h0];exact Nat.zero_min _);rw [h0] at this⊢;exact this
  .have:l= []:=List.eq_nil_of_length_eq_zero (by omega);rw [this,DD];exact d
 .cases a with
  |none=>have:=i.2.1 rfl;omega
  |some x=>
   have c:(bs l).length=Nat.min jR gN:=by
    have e:Nat.min jR gN=jR:=Nat.min_eq_left f;simp only [bs,List.length_map,e];omega
   have bC:=run_copy_row (P:=prog) w 22 22 m 5 g b gN Be x jR Bf (bs cur).toArray T (bs l) underlying22 Df d c
      (λj v n=>by
     obtain⟨AX,rfl⟩:=fq n;rw [i.2.2 x rfl j (by omega)]) (by simp only [List.size_toArray];simp [bs];omega) (cB _)
   have e:(bs l).length=jR:=(by simp only [bs,List.length_map];omega);rw [e] at bC;refine⟨_,bC,?_,⟨rfl,rfl,rfl,by simp,λk _ o=>setRow_other w g k _ o⟩,by simp⟩;unfold jX;rw [setRow_heap w g _ _ T _ d,<-YT];simp only [splice,List.append_assoc,e]
theorem acl (t:Int):(bh.setIfInBounds 0 (Value.int .u8 t)).setIfInBounds 511 (Value.int .u8 t)=(bs (s1 t)).toArray:=by
 apply Array.ext';rw [Array.toList_setIfInBounds,Array.toList_setIfInBounds];unfold bh s1;show ((bs (zs 512)).set 0 (Value.int .u8 t)).set 511 (Value.int .u8 t)=bs (t :: (zs 510 ++ [t]));rw [bs,bs,<-List.map_set,<-List.map_set,og 511,List.set_cons_zero,List.set_cons_succ,lM 510 1];have:=Qj (zs 510) 0 t;rw [bB] at this;have e:zs 1= [0]:=rfl;rw [e,this]
theorem MW (h:jX w T g l):w.rangeAt g 0 (bs l):=by
 intro j v b;obtain⟨a,rfl⟩:=fq b;rw [Nat.zero_add];exact h.cell a
theorem cE (h:w.heap[g]? =some (.cells cur T (0,0))) (b:cur.size=n):w.there g 0 n:=by
 intro j a;rw [Nat.zero_add];exact⟨by rw [aj h (j:=j) (u:=cur[j]'(by omega)) (by simp [show j<cur.size by omega])];rfl,ae h j⟩
theorem cI:bh.size=512:=by unfold bh;simp only [List.size_toArray,bs,List.length_map,bB]
theorem iY (h:l.length=512):(prog.info? 210).map (·.size)=some (bs l).length:=by
 rw [DF,bs,List.length_map,h]
theorem oh (t:Nat) (a:Option Addr) (n c:Nat) (body:List Int) (w:World) (A:t<256) (m:Src w a n body) (x:n<=504) (q:Bytes body):
  Calls prog 181 #[.int .u8 (t:Int), .slice a n c] w λe w'=>e= .returned (.agg (bs (be t body)).toArray)/\bW w w':=by
 obtain⟨H,y,Bj⟩:=jw m jc m.1;have A2:=(λw1=>mi (w.heap.size+1) 0 1 3 w1 (by omega) (by omega));have B7:=(λw1=>mi (w.heap.size+1) 0 7 511 w1 (by omega) (by omega));have ML:=(λw1=>mi (w.heap.size+1) 0 3 7 w1 (by omega) (by omega));clear m;go_in;go_wp2_with fail;rw [acl];obtain⟨w1,bN⟩:=bQ ((w.alloc (.cells bh 210)).alloc (.cells (bs (s1 t)).toArray 210));have bK:bW w w1:=by rw [bN];exact((bi _ w).alloc (bP _) _).alloc (by simp) _
 have aZ:jX w1 210 (w.heap.size+1) (s1 t):=by rw [bN];exact heap_alloc2_new _ _ _
 have jk:w1.heap[w.heap.size]? =some (.cells bh 210 (0,0)):=by rw [bN];exact heap_alloc2_old _ _ _
 rw [<-bN];clear bN y;refine(A2 w1).mono ?_;rintro e w' ⟨rfl,b⟩;have ez:=b.symm;subst ez;clear b A2;have d:=DE (w.heap.size+1) 1 2 2 n 210 (s1 t) w1 aZ (by omega) (by rw [YR];omega);rw [aci t n (by omega)] at d;have YU:=jk;have cN:=bK;clear aZ jk bK;go_wp2_with fail;refine oX d λr aZ l ec=>?_;have eM:=cN.trans (l.below (λj k=>by omega) cN.size);have jk:=(l.block _ (kN.1 YU).1 (by omega)).trans YU;obtain⟨s,bC,Qn,aV,kO⟩:=Qm r 3 210 (w.heap.size+1) 7 504 504 a n c (s2 t n) body aZ (H.later eM) x (by rw [YS];omega);have jK:=eM.trans (aV.below (λj k=>by omega) eM.size);have vP:=(aV.block _ (kN.1 jk).1 (by omega)).trans jk;have g:=acj t body (by omega);rw [Bj] at g;rw [g] at Qn;obtain⟨LR,Qo,fS⟩:=jw Qn vP jK;clear d aZ l eM jk aV jK vP Qn cN YU ec kO g;go_wp2_with fail;refine(B7 r).mono ?_;rintro e w' ⟨rfl,b⟩;have ez:=b.symm;subst ez;clear b B7;go_wp2_with fail;refine(ML s).mono ?_;rintro e w' ⟨rfl,b⟩;have ez:=b.symm;subst ez;clear b ML bC;have FP:=Qi (w.heap.size+1) 210 (s3 t body) s LR (Qk t (by omega)) (Ql (by omega) q (by omega));rw [UY t body (by omega)] at FP;have v:=ng (vN q (show body.length<=504 by omega));have i:=ack t body;obtain⟨E,o⟩:=bQ (sumOf (nx body));rw [<-o] at FP v i;have f:=i;clear o i;go_wp2_with fail;refine bE FP λz fe=>?_;have Xj:=LR.au (fe.block _ LR.lt);have rA:=(fe.block _ (kN.1 Qo).1).trans Qo;have sW:=fS.trans (fe.mono fS.size);have d:=DE (w.heap.size+1) 3 4 4 E 210 (s3 t body) z Xj (by omega) (by rw [Qk t (by omega)];omega);rw [f] at d;have Qp:=rA;have jB:=sW;clear FP fe Xj rA sW LR Qo fS f;go_wp2_with fail;refine oX d λw5 Xk dX qE=>?_;have Xl:=(dX.block _ (kN.1 Qp).1 (by omega)).trans Qp;have Ju:=jB.trans (dX.below (λj k=>by omega) jB.size);have jL:(be t body).length=512:=fj (by omega);have A6:=MW Xk;have dZ:=cE Xl cI;have aU:=iY jL;have jT:(bs (be t body)).length=512:=by rw [bs,List.length_map,jL]
 have dI:=cB (be t body);generalize p:bs (be t body)=F at*;rw [<-jT] at dZ;have pi:=(World.rangeAt_setCells_same w5 w.heap.size 0 F dZ);have bR:=all_oneCell_toArray dI;have A8:=Ju.trans ((aa.setCells (F:=λj=>j=w.heap.size) rfl F 0 w5).below (λj k=>by omega) Ju.size);have u:=p;clear d Xk dX qE Xl Ju jL Qp jB dI p;go_wp2_with (first|refine wpList_load_mid rfl 210 _ rfl (w.heap.size+1) 0 rfl F _ A6 underlying210 rfl aU ?_|refine wpList_store_mid rfl 210 _ _ rfl w.heap.size 0 F.toArray rfl rfl ?h1 ?h2 bR ?_);case h1=>simpa using dZ
 case h2=>simpa using aU
 exact bodyPost_ret (gh (P:=prog) rfl _ _ w.heap.size F _ rfl pi underlying210 rfl aU) rfl ⟨by rw [u],A8⟩
theorem results_cell_tmp {P:Program} {e:Func} {p q:Tmp} (h:e.results= #[.cell p ty, .tmp q]) (a:Array Value) (w:World) (g:Nat) (cs:List Value) (d:TypeDesc) (v:Value)
    (j:a.getD p undef=pQ g) (k:a.getD q undef=v) (f:w.rangeAt g 0 cs) (l:P.underlying ty=some d) (hd:d.isRow=true) (i:(P.info? ty).map (·.size)=some cs.length):
    (results e a).run P w= .ok (.tuple #[.agg cs.toArray,v]) w:=by
 have b:a[p]?.getD undef=pQ g:=by simpa using j
 have c:a[q]?.getD undef=v:=by simpa using k
 simp [results,h,b,c,asAddr,run_loadVar_mid w g 0 ty cs d f l hd i]
theorem lF {b o:Nat} (h:Src w (some (aD b o)) n l):w.rangeAt b o (bs l):=by
 intro j v a;obtain⟨c,rfl⟩:=fq a;have:=h.2.2 _ rfl j (by have:=h.1;omega);rwa [aK] at this
theorem Qq (a:Option Addr) (c:Nat) (w:World):(Instr.arrayAt 210 (.slice a 512 c)).run prog w= .ok (.pointer a) w:=by
 simp [Instr.arrayAt,run_underlying underlying210]
theorem yF:∀v∈bh.toList,v.oneCell'=true:=cB (zs 512)
theorem yG:(prog.info? 210).map (·.size)=some bh.toList.length:=iY (l:=zs 512) (bB 512)
theorem pC (a:Option Addr) (n c:Nat) (w:World) (d:n≠512):
  Calls prog 215 #[.slice a n c] w λe w'=>e= .returned (.tuple #[.agg bh, .bool false])/\bW w w':=by
 have f:=jc;have h1:(((n:Int)) != 512)=true:=by rw [fT];omega
 have aU:=yG;have dI:=yF;generalize bh=Z at*;have bN:(w.alloc (.cells Z 210)).heap[w.heap.size]? =some (.cells Z 210 (0,0)):=heap_alloc_new _ _;have dZ:(w.alloc (.cells Z 210)).there w.heap.size 0 Z.toList.length:=cE bN (by simp);have bR:Z.all Value.oneCell'=true:=all_oneCell_toArray dI;have bK:bW w (w.alloc (.cells Z 210)):=(bi _ w).alloc (bP _) _;go_in;go_wp2_with (refine wpList_store_mid rfl 210 _ _ rfl w.heap.size 0 Z rfl rfl ?h1 ?h2 bR ?_);case h1=>simpa using dZ
 case h2=>simpa using aU
 exact bodyPost_ret (results_cell_tmp (P:=prog) rfl _ _ w.heap.size Z.toList _ _ rfl rfl (World.rangeAt_setCells_same _ w.heap.size 0 Z.toList dZ) underlying210 rfl aU) rfl ⟨rfl,bK.trans ((aa.setCells (F:=λj=>j=w.heap.size) rfl Z.toList 0 _).below (λj b=>by omega) bK.size)⟩
theorem mj (b o c:Nat) (l:List Int) (w:World) (a:Src w (some (aD b o)) 512 l):
  Calls prog 215 #[.slice (some (aD b o)) 512 c] w λe w'=>e= .returned (.tuple #[.agg (bs l).toArray, .bool true])/\bW w w':=by
 have f:=jc;have YV:=Qq (some (aD b o)) c;have bK:bW w (w.alloc (.cells bh 210)):=(bi _ w).alloc (bP _) _;have A6:=lF (a.later bK);have aU:=iY (l:=l) a.1;have dI:=cB l;have bN:(w.alloc (.cells bh 210)).heap[w.heap.size]? =some (.cells bh 210 (0,0)):=heap_alloc_new _ _;have dZ:=cE bN cI;have jT:(bs l).length=512:=by rw [bs,List.length_map,a.1]
 generalize bs l=F at*;rw [<-jT] at dZ;have pi:=(World.rangeAt_setCells_same _ w.heap.size 0 F dZ);have bR:=all_oneCell_toArray dI;have A8:=(bK.trans ((aa.setCells (F:=λj=>j=w.heap.size) rfl F 0 _).below (λj d=>by omega) bK.size));go_in;go_wp2_with (first|refine wpList_load_mid rfl 210 _ rfl b o rfl F _ A6 underlying210 rfl aU ?_|refine wpList_store_mid rfl 210 _ _ rfl w.heap.size 0 F.toArray rfl rfl ?h1 ?h2 bR ?_);case h1=>simpa using dZ
 case h2=>simpa using aU
 exact bodyPost_ret (results_cell_tmp (P:=prog) rfl _ _ w.heap.size F _ _ rfl rfl pi underlying210 rfl aU) rfl ⟨rfl,A8⟩
def xy (w:World) (B:Nat) (v:Value) (l:List Int):Prop:=∃a c,v= .slice a l.length c/\Src w a l.length l/\l.length<=c/\∀x,a=some x->B<=x.block
theorem xy.nil (w:World) (B:Nat):xy w B (.slice none 0 0) []:=⟨none,0,rfl,⟨rfl,λ_=>rfl,λx a=>by cases a⟩,bP _,λx a=>by cases a⟩
theorem xy.later {B:Nat} (h:xy w B v l) (b:bW w w'):xy w' B v l:=by
 obtain⟨a,c,rfl,e,d,f⟩:=h;exact⟨a,c,rfl,e.later b,d,f⟩
theorem jX.lst {B:Nat} (h:jX w T g l) (a:B<=g):xy w B (.slice (some (aD g 0)) l.length l.length) l:=by
 refine⟨some (aD g 0),l.length,rfl,?_,bP _,λx b=>by cases b;exact a⟩;have:=h.src (o:=0) (n:=l.length) (by omega);simpa using this
theorem se:∀(c b:List Value) (cur:Array Value),w.heap[g]? =some (.cells cur T (0,0))->(∃a,cur.toList=b ++ a/\a.length=c.length)->
    (w.setCells g b.length c).heap[g]? =some (.cells (b ++ c).toArray T (0,0)):=by
 intro c
 induction c generalizing w with
 |nil=>
  intro b cur i ⟨a,d,f⟩;have:a= []:=List.eq_nil_of_length_eq_zero f;subst this;simp only [List.append_nil] at d⊢;show w.heap[g]? =_;rw [i,<-d]
 |cons v r j=>
  intro b cur i ⟨a,d,f⟩;cases a with
  |nil=>simp at f
  |cons u a=>
   have e:(cur.setIfInBounds b.length v).toList=(b ++ [v]) ++ a:=by
    rw [Array.toList_setIfInBounds,d,List.set_append_right _ _ (bP _),Nat.sub_self];simp
   have:=j (w:=w.setCell ⟨g,b.length,none⟩ v) (b ++ [v]) _ (heap_setCell_same w g b.length cur T v i) ⟨a,e,by simpa using f⟩;simp only [World.setCells];simpa using this
theorem eE (a:w.heap[g]? =some (.cells cur T (0,0))) (b:cur.size=l.length):jX (w.setCells g 0 (bs l)) T g l:=
 se (bs l) [] cur a ⟨cur.toList,rfl,by simp [bs,b]⟩
end Go.Proofs.YtenlkgicpllbhabGreat
